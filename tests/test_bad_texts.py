"""Point 14: what is wrong in an assembler text, and on which line."""

import unittest

from quietbroom.assembler import assemble
from quietbroom.errors import BadProgram, BadText
from quietbroom.operations import OPERANDS, OPERATIONS
from tests.samples import EVERY

LONG = "x" * 20000


class BadTextTest(unittest.TestCase):

    def refused(self, text, line, why):
        with self.assertRaises(BadText) as caught:
            assemble(text)
        self.assertEqual((caught.exception.line, caught.exception.why), (line, why), text)

    def refused_program(self, text, part, number, place, why):
        with self.assertRaises(BadProgram) as caught:
            assemble(text)
        error = caught.exception
        self.assertEqual((error.part, error.number, error.place, error.why), (part, number, place, why), text)


class OutsideTest(BadTextTest):

    def line_refused(self, line, why):
        self.refused(line, 1, why)
        self.refused(f"# first\n\n{line}\nrubbish", 3, why)
        self.refused(f"function main 0\nhalt\nend\n   {line}   \n", 4, why)

    def test_outside(self):
        self.line_refused("end", "outside")
        for operation in OPERATIONS:
            if operation not in ("array", "pair"):
                self.line_refused(operation, "outside")
                self.line_refused(operation + " 1 2 3 4 5", "outside")
        for head in (":", "a:", "a:b:", "::", "record:", "end:", "array:", LONG + ":"):
            self.line_refused(head, "outside")
            self.line_refused(head + " record", "outside")

    def test_word(self):
        for head in ("word", "Record", "records", "$no", "a:b", ":a", "->", "0", "shape", "ends", LONG):
            self.line_refused(head, "word")
            self.line_refused(head + " box num", "word")

    def test_count(self):
        counts = {"array": 3, "weak": 3, "pair": 4, "static": 3}
        for head, right in counts.items():
            for count in range(1, 8):
                if count != right:
                    self.line_refused(" ".join([head] + ["box"] * (count - 1)), "count")
        for line in ("record", "function", "function main", "function main 0 ->", "function main 0 num ->",
                     "function main 0 -> num num", "function main 0 -> num -> num", "function main 0 -> -> ->",
                     "function main 0 num -> box num num"):
            self.line_refused(line, "count")

    def test_field(self):
        for word in ("a", "a:", ":num", ":", "a::num", "a:b:num", "a:num:", ":a:num", "::", LONG, LONG + ":"):
            self.line_refused("record box " + word, "field")
            self.line_refused(f"record box a:num {word} b:num", "field")
        for words in ("->", "a:num ->", "a:num -> b:num", "a:num -> b:num c:num"):
            self.line_refused("record box " + words, "field")

    def test_number(self):
        for word in ("->", "num", "-0", "00", "01", "+1", "-", "1:", "11111111111", LONG, "9" * 20000):
            self.line_refused("function main " + word, "number")
            self.line_refused(f"function main {word} num -> num", "number")
        self.line_refused("function main -> -> num", "number")

    def test_reasons_of_one_line(self):
        self.line_refused("function main x ->", "count")
        self.line_refused("function main", "count")
        self.line_refused("array: a b c d", "outside")

    def test_a_name_is_no_matter_of_lines(self):
        self.refused_program("record a:b\nfunction main 0\nhalt\nend", "shape", 0, -1, "name")
        self.refused_program("record end\nrecord -> a:num\nfunction main 0\nhalt\nend", "shape", 1, -1, "name")
        self.refused_program(f"static {LONG} num\nfunction main 0\nhalt\nend", "static", 0, -1, "name")


class InsideTest(BadTextTest):

    def line_refused(self, line, why):
        self.refused(f"function main 0\n{line}", 2, why)
        self.refused(f"function main 0\n\n# remark\n   {line}   \nrubbish", 4, why)
        self.refused(f"record box\nfunction main 3\nhalt\nend\nfunction work 3\nhalt\n{line}\nend", 7, why)

    def test_inside(self):
        for head in ("record", "weak", "static", "function"):
            self.line_refused(head, "inside")
            self.line_refused(head + " box num", "inside")
            self.line_refused(head + " a b c d e f", "inside")

    def test_word(self):
        for head in (":", "::", "a:b", "a:b:", ":a", ":a:", "word", "Num", "nums", "->", "0", "end.", "ends", LONG):
            self.line_refused(head, "word")
            self.line_refused(head + " 1 2 3", "word")

    def test_count(self):
        self.line_refused("end end", "count")
        self.line_refused("end 1 2 3", "count")
        self.line_refused("a: num 1", "count")
        self.line_refused("a: a:", "count")
        for operation, sorts in OPERANDS.items():
            for count in range(5):
                if count != len(sorts):
                    self.line_refused(" ".join([operation] + ["1"] * count), "count")
                    self.line_refused(" ".join([operation] + ["box"] * count), "count")

    def test_number(self):
        for operation in ("num", "load", "store"):
            for word in ("-0", "00", "01", "+1", "-", "x", "1x", "box", "11111111111", LONG, "9" * 20000):
                self.line_refused(f"{operation} {word}", "number")

    def test_label(self):
        self.refused("function main 0\na:\na:\nhalt\nend", 3, "label")
        self.refused("function main 0\na:\nhalt\nb:\n\na:\nend", 6, "label")
        self.refused(f"function main 0\n{LONG}:\nhalt\n{LONG}:\nend", 4, "label")
        self.refused("function main 0\na:\nhalt\nend\nfunction work 0\na:\nhalt\na:\nend", 8, "label")

    def test_reasons_of_one_line(self):
        self.line_refused("num x x", "count")
        self.refused("function main 0\na:\na: b", 3, "count")
        self.line_refused("static:: 1", "word")

    def test_array_and_pair_are_operations_inside(self):
        self.line_refused("array row num", "count")
        self.line_refused("pair tie box num", "count")

    def test_other_operands_are_any_words(self):
        for operation, place in (("fetch 0", 0), ("call a:b", 0), ("make ->", 0), ("nil num", 0), ("get # x", 0)):
            text = f"record box a:num\nfunction main 0\n{operation}\nend"
            self.refused_program(text, "body", 0, place, "operand")


class PlacesTest(BadTextTest):

    def test_labels_that_are_not_there(self):
        self.refused("function main 0\njump a\nend", 2, "label")
        self.refused("function main 0\nhalt\na:\nwhen b\nend", 4, "label")
        self.refused("function main 0\na:\njump a:\nend", 3, "label")
        self.refused("function main 0\n0:\nhalt\nwhen 1\nend", 4, "label")

    def test_labels_of_other_functions(self):
        self.refused("function main 0\na:\nhalt\nend\nfunction work 0\njump a\nend", 6, "label")
        self.refused("function main 0\njump a\nend\nfunction work 0\na:\nhalt\nend", 2, "label")

    def test_they_are_looked_up_behind_all_lines(self):
        self.refused("function main 0\njump a\nend\nrubbish", 4, "word")
        self.refused("function main 0\njump a\nend\nfunction work 0\nhalt", 6, "open")
        self.refused("function main 0\njump a\nb:\nb:\nend", 4, "label")
        self.refused("function main 0\nhalt\nend\nfunction work 0\njump a\njump b\nend", 5, "label")

    def test_they_are_looked_up_ahead_of_the_program(self):
        self.refused("record BOX\nfunction main 99\njump a\nend", 3, "label")
        self.refused("function main 0\nnum 9999999999\njump a\nend", 3, "label")

    def test_the_first_in_the_order_of_the_lines(self):
        text = "function main 0\nhalt\njump x\nwhen y\nend\nfunction work 0\njump z\nend"
        self.refused(text, 3, "label")
        self.refused(text.replace("jump x", "halt"), 4, "label")
        self.refused(text.replace("jump x", "halt").replace("when y", "halt"), 7, "label")

    def test_every_operation_but_two_has_no_label(self):
        for instruction in EVERY:
            if instruction[0] in ("jump", "when"):
                self.refused(f"function main 0\n{instruction[0]} a\nend", 2, "label")
            elif len(instruction) == 2 and isinstance(instruction[1], str):
                self.refused_program(f"function main 0\na:\n{instruction[0]} a\nend", "body", 0, 0, "operand")


class OpenTest(BadTextTest):

    def test_open(self):
        self.refused("function main 0", 2, "open")
        self.refused("function main 0\n", 3, "open")
        self.refused("function main 0\nhalt\n\n\n", 6, "open")
        self.refused("function main 0\nhalt\nend\nfunction work 0\nback", 6, "open")
        self.refused("function main 0\nhalt\n# end", 4, "open")

    def test_a_wrong_line_is_told_first(self):
        self.refused("function main 0\nrecord box", 2, "inside")
        self.refused("function main 0\nnum x\n", 2, "number")


class OrderTest(BadTextTest):

    def test_the_first_wrong_line(self):
        lines = ["record", "record box a", "function main x", "rubbish", "end", "function main 0", "num x", "add 1",
                 "rubbish", "record box", "a:", "a:", "jump b", "end"]
        told = [(1, "count"), (2, "field"), (3, "number"), (4, "word"), (5, "outside"), (7, "number"), (8, "count"),
                (9, "word"), (10, "inside"), (12, "label"), (13, "label")]
        for line, why in told:
            self.refused("\n".join(lines), line, why)
            lines[line - 1] = "#"

    def test_errors_of_make_program_are_passed_on(self):
        self.refused_program("", "program", 0, -1, "empty")
        self.refused_program("\n\n# nothing\n", "program", 0, -1, "empty")
        main = "function main 0\nhalt\nend"
        self.refused_program("record box\n" * 41 + main, "program", 0, -1, "many")
        self.refused_program("record box\nrecord box\n" + main, "shape", 1, -1, "twice")
        nine = " ".join(f"f{k}:num" for k in range(9))
        self.refused_program(f"record box {nine}\n" + main, "shape", 0, -1, "fields")
        self.refused_program("weak look num\n" + main, "shape", 0, -1, "kind")
        self.refused_program("static best list\n" + main, "static", 0, -1, "kind")
        self.refused_program("function main 0\nend", "function", 0, -1, "body")
        self.refused_program("function main 0\na:\nb:\nend", "function", 0, -1, "body")
        self.refused_program("function main 1 -> num\nhalt\nend", "function", 0, -1, "entry")
        self.refused_program("function main 0\n" + "halt\n" * 201 + "end", "function", 0, -1, "body")
        self.refused_program(main + f"\nfunction work 0 {LONG}\nhalt\nend", "function", 1, -1, "kind")

    def test_examples(self):
        self.refused("function main 0\n  jump away\nend", 2, "label")
        self.refused("function main 0\n  num 007\n  tell\n  back\nend", 2, "number")
        self.refused("record box a:b:num\nfunction main 0", 1, "field")
        self.refused("function main 0\n  back\n", 4, "open")
        self.refused_program("function main 0\nend", "function", 0, -1, "body")


if __name__ == "__main__":
    unittest.main()
