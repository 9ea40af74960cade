"""Point 9: the operations and the sorts of their operands."""

import unittest

from quietbroom.operations import OPERANDS, OPERATIONS

ORDER = (
    "num add sub mul div mod less same flip drop copy swap load store fetch keep jump when call back "
    "halt tell nil empty twin make get put array at set length weaken peek pair key value watch parted settle"
)
SORTS = {
    ("number",): "num",
    ("slot",): "load store",
    ("static",): "fetch keep",
    ("place",): "jump when",
    ("function",): "call",
    ("shape",): "nil empty twin watch parted",
    ("record",): "make",
    ("record", "field"): "get put",
    ("array",): "array at set length",
    ("weak",): "weaken peek",
    ("pair",): "pair key value",
    (): "add sub mul div mod less same flip drop copy swap back halt tell settle",
}


class OperationsTest(unittest.TestCase):

    def test_order(self):
        self.assertIs(type(OPERATIONS), tuple)
        self.assertEqual(OPERATIONS, tuple(ORDER.split()))

    def test_numbers(self):
        self.assertEqual(len(OPERATIONS), 40)
        self.assertEqual(len(set(OPERATIONS)), 40)
        for number, word in ((0, "num"), (1, "add"), (4, "div"), (19, "back"), (21, "tell"), (39, "settle")):
            self.assertEqual(OPERATIONS[number], word)

    def test_sorts(self):
        wanted = {word: sorts for sorts, words in SORTS.items() for word in words.split()}
        self.assertIs(type(OPERANDS), dict)
        self.assertEqual(OPERANDS, wanted)

    def test_every_operation_has_operands(self):
        self.assertEqual(set(OPERANDS), set(OPERATIONS))
        for sorts in OPERANDS.values():
            self.assertIs(type(sorts), tuple)


if __name__ == "__main__":
    unittest.main()
