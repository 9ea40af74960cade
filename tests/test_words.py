"""Points 4 to 6: numbers, words, references."""

import unittest

from quietbroom.words import MAX_NUMBER, MIN_NUMBER, NIL, ZERO
from quietbroom.words import address_of, is_number, is_reference, number_of, number_word, reference_word, wrap

SPAN = 4294967296
HUGE = 10 ** 400


class WrapTest(unittest.TestCase):

    def test_bounds(self):
        self.assertEqual((MIN_NUMBER, MAX_NUMBER), (-2147483648, 2147483647))

    def test_numbers_stay(self):
        for n in (0, 1, -1, 2147483647, 2147483646, -2147483648, -2147483647):
            self.assertEqual(wrap(n), n)

    def test_next_to_the_bounds(self):
        self.assertEqual(wrap(2147483648), -2147483648)
        self.assertEqual(wrap(2147483649), -2147483647)
        self.assertEqual(wrap(-2147483649), 2147483647)
        self.assertEqual(wrap(-2147483650), 2147483646)

    def test_multiples(self):
        for many in (1, -1, 2, -2, 77, -77, HUGE, -HUGE):
            self.assertEqual(wrap(many * SPAN), 0)
            self.assertEqual(wrap(many * SPAN - 1), -1)
            self.assertEqual(wrap(many * SPAN + 2147483647), 2147483647)
            self.assertEqual(wrap(many * SPAN + 2147483648), -2147483648)

    def test_very_large(self):
        for n in (HUGE, -HUGE, HUGE + 12345, 2 ** 4000 - 1, -(2 ** 4000) + 1):
            self.assertTrue(MIN_NUMBER <= wrap(n) <= MAX_NUMBER)
            self.assertEqual((n - wrap(n)) % SPAN, 0)

    def test_by_name(self):
        self.assertEqual(wrap(n=SPAN + 5), 5)


class WordsTest(unittest.TestCase):

    def test_constants(self):
        self.assertEqual((NIL, ZERO), (0, 1))

    def test_number_word(self):
        for n, word in ((0, 1), (1, 3), (-1, -1), (-3, -5), (2147483647, 4294967295), (-2147483648, -4294967295)):
            self.assertEqual(number_word(n), word)

    def test_number_word_wraps(self):
        self.assertEqual(number_word(2147483648), -4294967295)
        self.assertEqual(number_word(-2147483649), 4294967295)
        self.assertEqual(number_word(HUGE * SPAN + 4), 9)
        self.assertEqual(number_word(n=-HUGE * SPAN), 1)

    def test_reference_word(self):
        for address in (1, 7, 41000, HUGE):
            self.assertEqual(reference_word(address), 2 * address)
        self.assertEqual(reference_word(address=3), 6)

    def test_is_number(self):
        for word in (1, 3, -1, -5, HUGE + 1, -HUGE - 1):
            self.assertIs(is_number(word), True)
        for word in (NIL, 2, -2, -4, HUGE, -HUGE):
            self.assertIs(is_number(word), False)
        self.assertIs(is_number(word=ZERO), True)

    def test_is_reference(self):
        for word in (2, 4, -2, -4, HUGE, -HUGE):
            self.assertIs(is_reference(word), True)
        for word in (NIL, ZERO, 3, -1, -5, HUGE + 1, -HUGE - 1):
            self.assertIs(is_reference(word), False)
        self.assertIs(is_reference(word=NIL), False)

    def test_number_of(self):
        for n in (0, 1, -1, 2147483647, -2147483648):
            self.assertEqual(number_of(number_word(n)), n)
        self.assertEqual(number_of(-HUGE - 1), -HUGE // 2 - 1)
        self.assertEqual(number_of(word=HUGE + 1), HUGE // 2)

    def test_address_of(self):
        for address in (1, 2, 7, HUGE):
            self.assertEqual(address_of(reference_word(address)), address)
        self.assertEqual(address_of(0), 0)
        self.assertEqual(address_of(word=14), 7)

    def test_kinds_of_answers(self):
        for answer in (wrap(1), number_word(0), reference_word(1), number_of(1), address_of(0)):
            self.assertIs(type(answer), int)

    def test_example(self):
        self.assertEqual((wrap(2147483648), number_word(-3), reference_word(7)), (-2147483648, -5, 14))


if __name__ == "__main__":
    unittest.main()
