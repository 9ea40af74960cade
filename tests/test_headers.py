"""Points 43 and 44: the two header words."""

import itertools
import unittest

from quietbroom.headers import BLACK, GRAY, WHITE
from quietbroom.headers import colour_of, form_word, forward_of, length_of, remembered_of, shape_number_of, state_word


class FormTest(unittest.TestCase):

    def test_words_and_their_parts(self):
        for number, length in itertools.product(range(40), (0, 1, 2, 8, 63, 64, 65, 999, 1000)):
            word = form_word(number, length)
            self.assertEqual(word, 64 * length + number)
            self.assertEqual((shape_number_of(word), length_of(word)), (number, length))

    def test_bounds(self):
        self.assertEqual((form_word(0, 0), form_word(39, 0), form_word(0, 1), form_word(39, 1000)), (0, 39, 64, 64039))

    def test_by_name(self):
        self.assertEqual(form_word(length=5, shape_number=3), 323)
        self.assertEqual((shape_number_of(word=323), length_of(word=323)), (3, 5))


class StateTest(unittest.TestCase):

    def test_colours(self):
        self.assertEqual((WHITE, GRAY, BLACK), (0, 1, 2))

    def test_words_and_their_parts(self):
        for colour, remembered, forward in itertools.product((WHITE, GRAY, BLACK), (0, 1), (0, 1, 2, 7, 8, 20001, 60000)):
            word = state_word(colour, remembered, forward)
            self.assertEqual(word, 8 * forward + 4 * remembered + colour)
            self.assertEqual((colour_of(word), remembered_of(word), forward_of(word)), (colour, remembered, forward))

    def test_bounds(self):
        self.assertEqual(state_word(WHITE, 0, 0), 0)
        self.assertEqual(state_word(BLACK, 1, 0), 6)
        self.assertEqual(state_word(WHITE, 0, 1), 8)
        self.assertEqual(state_word(BLACK, 1, 60000), 480006)

    def test_by_name(self):
        self.assertEqual(state_word(forward=40, colour=2, remembered=1), 326)
        self.assertEqual((colour_of(word=326), remembered_of(word=326), forward_of(word=326)), (2, 1, 40))

    def test_example(self):
        self.assertEqual((form_word(3, 5), state_word(2, 1, 40), colour_of(326), forward_of(326)), (323, 326, 2, 40))


if __name__ == "__main__":
    unittest.main()
