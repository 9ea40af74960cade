"""Points 2, 7 and 8: names and shapes."""

import unittest

from quietbroom.shapes import FORMS, Shape, is_name, size_of


class NameTest(unittest.TestCase):

    def test_names(self):
        for text in ("a", "z", "box", "a0", "z9z9", "main", "abcdefghijklmnop", "a123456789012345"):
            self.assertIs(is_name(text), True, text)

    def test_lengths(self):
        self.assertIs(is_name(""), False)
        self.assertIs(is_name("a" * 16), True)
        self.assertIs(is_name("a" * 17), False)
        self.assertIs(is_name("a" * 100000), False)

    def test_first_sign(self):
        for text in ("0", "9a", "1box", "123"):
            self.assertIs(is_name(text), False, text)

    def test_every_other_sign(self):
        for code in [9, 10, *range(32, 127)]:
            sign = chr(code)
            letter, digit = "a" <= sign <= "z", "0" <= sign <= "9"
            self.assertIs(is_name(sign), letter, repr(sign))
            for text in (sign + "b", sign + "bc"):
                self.assertIs(is_name(text), letter, repr(text))
            for text in ("b" + sign, "b" + sign + "c", "b1" + sign):
                self.assertIs(is_name(text), letter or digit, repr(text))

    def test_words_that_are_no_names(self):
        for text in ("num", "mixed", "unset"):
            self.assertIs(is_name(text), False, text)
        for text in ("nums", "nu", "number", "mixe", "mixed1", "unse", "unsets", "xnum", "any", "num0"):
            self.assertIs(is_name(text), True, text)
        for text in ("num ", " num", "Num", "num\n"):
            self.assertIs(is_name(text), False, text)

    def test_operations_are_names(self):
        for text in ("array", "pair", "record", "weak", "end", "function", "static"):
            self.assertIs(is_name(text), True, text)

    def test_by_name(self):
        self.assertIs(is_name(text="box"), True)


class ShapeTest(unittest.TestCase):

    def setUp(self):
        self.record = Shape("box", "record", (("value", "num"), ("next", "box"), ("last", "num")))
        self.array = Shape("row", "array", (("item", "num"),))
        self.boxes = Shape("boxes", "array", (("item", "box"),))
        self.weak = Shape("look", "weak", (("target", "box"),))
        self.pair = Shape("tie", "pair", (("key", "box"), ("value", "num")))
        self.link = Shape("link", "pair", (("key", "box"), ("value", "link")))

    def test_forms(self):
        self.assertEqual(FORMS, ("record", "array", "weak", "pair"))

    def test_attributes(self):
        self.assertEqual((self.pair.name, self.pair.form), ("tie", "pair"))
        self.assertEqual(self.pair.fields, (("key", "box"), ("value", "num")))
        self.assertEqual(Shape("bare", "record", []).fields, ())

    def test_lists_become_tuples_of_its_own(self):
        fields = [["value", "num"], ["next", "box"]]
        shape = Shape(name="box", form="record", fields=fields)
        self.assertEqual(fields, [["value", "num"], ["next", "box"]])
        fields[0][1] = "box"
        fields.append(["more", "num"])
        self.assertEqual(shape.fields, (("value", "num"), ("next", "box")))
        self.assertEqual([type(field) for field in shape.fields], [tuple, tuple])

    def test_kind_of(self):
        self.assertEqual([self.record.kind_of(place) for place in range(3)], ["num", "box", "num"])
        self.assertEqual(self.weak.kind_of(0), "box")
        self.assertEqual([self.pair.kind_of(place) for place in range(2)], ["box", "num"])
        self.assertEqual(self.link.kind_of(place=1), "link")

    def test_kind_of_items(self):
        for place in (0, 1, 5, 999, 1000, 10 ** 30):
            self.assertEqual(self.array.kind_of(place), "num")
            self.assertEqual(self.boxes.kind_of(place), "box")

    def test_blank(self):
        self.assertEqual(self.record.blank(3), (1, 0, 1))
        self.assertEqual(self.weak.blank(1), (0,))
        self.assertEqual(self.pair.blank(2), (0, 1))
        self.assertEqual(self.link.blank(length=2), (0, 0))
        self.assertEqual(Shape("bare", "record", ()).blank(0), ())

    def test_only_an_array_looks_at_the_length(self):
        for length in (0, 1, 2, 3, 1000):
            self.assertEqual(self.record.blank(length), (1, 0, 1))
            self.assertEqual(self.weak.blank(length), (0,))
            self.assertEqual(self.pair.blank(length), (0, 1))

    def test_blank_of_an_array(self):
        for length in (0, 1, 2, 999, 1000):
            self.assertEqual(self.array.blank(length), (1,) * length)
            self.assertEqual(self.boxes.blank(length), (0,) * length)

    def test_a_record_of_a_field_called_item(self):
        shape = Shape("box", "record", (("item", "num"), ("target", "box")))
        self.assertEqual((shape.kind_of(1), shape.blank(7)), ("box", (1, 0)))

    def test_size_of(self):
        for length in (0, 1, 8, 1000, 10 ** 30):
            self.assertEqual(size_of(length), length + 2)
        self.assertEqual(size_of(length=3), 5)


if __name__ == "__main__":
    unittest.main()
