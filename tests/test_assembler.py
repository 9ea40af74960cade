"""Point 13: what assembler text means."""

import unittest

from quietbroom.assembler import assemble
from quietbroom.errors import BadProgram, BadText
from quietbroom.programs import Program
from tests.samples import FUNCTIONS, SHAPES, STATICS

EVERY_TEXT = """
record box value:num next:box
record bare
array row box
weak look tie
pair tie box num
static best num
static kept row
function main 3 num
 num -7
 add
 sub
three:
 mul
 div
 mod
 less
 same
 flip
 drop
 copy
 swap
 load 0
 store 2
 fetch best
 keep kept
 jump three
 when last
 call work
 back
 halt
 tell
 nil tie
 empty row
 twin look
 make bare
 get box value
 put box next
 array row
 at row
 set row
 length row
 weaken look
 peek look
 pair tie
 key tie
 value tie
 watch box
 parted bare
last:
 settle
end
function work 2 box num -> look
 nil look
 back
end"""


def body_of(text):
    """The body of the first function."""
    return assemble(text).functions[0].body


class LinesTest(unittest.TestCase):

    def test_every_kind_of_line(self):
        program = assemble(EVERY_TEXT)
        self.assertIs(type(program), Program)
        self.assertEqual(program.data(), (SHAPES, STATICS, FUNCTIONS))

    def test_by_name(self):
        self.assertEqual(assemble(text=EVERY_TEXT).data(), (SHAPES, STATICS, FUNCTIONS))

    def test_blanks_do_not_count(self):
        lines = [("   " + line.replace(" ", "     ") + "  ") for line in EVERY_TEXT.split("\n")]
        self.assertEqual(assemble("\n".join(lines)).data(), (SHAPES, STATICS, FUNCTIONS))

    def test_empty_lines_and_remarks_are_skipped(self):
        lines = []
        for line in EVERY_TEXT.split("\n"):
            lines.extend([line, "", "    ", "#", "# end", "   #end", "#record", "##  function :"])
        self.assertEqual(assemble("\n".join(lines)).data(), (SHAPES, STATICS, FUNCTIONS))

    def test_a_hash_behind_the_beginning_is_no_remark(self):
        for text in ("function main 0\nback # now\nend", "function main 0 #\nback\nend"):
            with self.assertRaises((BadText, BadProgram)):
                assemble(text)

    def test_line_feeds_at_the_end(self):
        for tail in ("", "\n", "\n\n\n", "\n   ", "\n# done"):
            self.assertEqual(assemble(EVERY_TEXT + tail).data(), (SHAPES, STATICS, FUNCTIONS))

    def test_fields_of_records(self):
        text = "record none\nrecord one a:num\nrecord eight a:one b:num c:none d:num e:num f:num g:num h:eight\n"
        shapes = assemble(text + "function main 0\nhalt\nend").data()[0]
        self.assertEqual(shapes[0], ("none", "record", ()))
        self.assertEqual(shapes[1], ("one", "record", (("a", "num"),)))
        self.assertEqual(shapes[2][2][0], ("a", "one"))
        self.assertEqual([name for name, _ in shapes[2][2]], list("abcdefgh"))

    def test_families_in_any_order(self):
        text = ("function main 0\ncall other\nhalt\nend\nstatic two one\nweak two one\nfunction other 0\nfetch two\n"
                "back\nend\nrecord one\nstatic one two\narray three num")
        shapes = (("two", "weak", (("target", "one"),)), ("one", "record", ()), ("three", "array", (("item", "num"),)))
        statics = (("two", "one"), ("one", "two"))
        functions = (("main", (), None, 0, (("call", "other"), ("halt",))),
                     ("other", (), None, 0, (("fetch", "two"), ("back",))))
        self.assertEqual(assemble(text).data(), (shapes, statics, functions))

    def test_array_and_pair_inside_and_outside(self):
        text = "array row num\nrecord box\npair tie box row\nfunction main 0\narray row\npair tie\nend"
        program = assemble(text)
        self.assertEqual([shape.form for shape in program.shapes], ["array", "record", "pair"])
        self.assertEqual(program.functions[0].body, (("array", "row"), ("pair", "tie")))

    def test_names_like_the_words_of_lines(self):
        text = ("record end function:num\nstatic static end\nfunction function 0\nget end function\nfetch static\n"
                "call function\nend")
        self.assertEqual(body_of(text), (("get", "end", "function"), ("fetch", "static"), ("call", "function")))


class HeadsTest(unittest.TestCase):

    def head(self, line):
        function = assemble("record box\nfunction main 0\nhalt\nend\n" + line + "\nhalt\nend").functions[1]
        return function.name, function.params, function.result, function.slots

    def test_without_a_result(self):
        self.assertEqual(self.head("function work 0"), ("work", (), None, 0))
        self.assertEqual(self.head("function work 16 num box"), ("work", ("num", "box"), None, 16))

    def test_with_a_result(self):
        self.assertEqual(self.head("function work 0 -> num"), ("work", (), "num", 0))
        self.assertEqual(self.head("function work 3 box -> box"), ("work", ("box",), "box", 3))
        self.assertEqual(self.head("function work 6 num num num num num num  ->   box")[1:3], (("num",) * 6, "box"))

    def test_the_first_arrow_begins_the_result(self):
        with self.assertRaises(BadProgram) as caught:
            self.head("function work 0 -> ->")
        self.assertEqual((caught.exception.part, caught.exception.why), ("function", "kind"))

    def test_an_arrow_is_a_word(self):
        for line in ("function work 1 ->num", "function work 1 num->num", "function work 1 ->-> num"):
            with self.assertRaises(BadProgram) as caught:
                self.head(line)
            self.assertEqual((caught.exception.part, caught.exception.why), ("function", "kind"))

    def test_an_arrow_as_a_name(self):
        with self.assertRaises(BadProgram) as caught:
            self.head("function -> 0")
        self.assertEqual((caught.exception.part, caught.exception.why), ("function", "name"))


class LabelsTest(unittest.TestCase):

    def test_backward_and_forward(self):
        text = "function main 0\na:\njump b\nhalt\nb:\nwhen a\njump c\nc:\nhalt\nend"
        self.assertEqual(body_of(text), (("jump", 2), ("halt",), ("when", 0), ("jump", 4), ("halt",)))

    def test_several_at_one_place(self):
        text = "function main 0\nhalt\na:\n\n# both\n  b:  \njump a\njump b\nend"
        self.assertEqual(body_of(text), (("halt",), ("jump", 1), ("jump", 1)))

    def test_labels_that_nothing_names(self):
        self.assertEqual(body_of("function main 0\na:\nhalt\nb:\nc:\nend"), (("halt",),))

    def test_the_same_label_in_several_functions(self):
        text = "function main 0\nhalt\na:\njump a\nend\nfunction work 0\na:\njump a\nend"
        bodies = [function.body for function in assemble(text).functions]
        self.assertEqual(bodies, [(("halt",), ("jump", 1)), (("jump", 0),)])

    def test_any_word_may_be_a_label(self):
        for label in ("num", "end", "record", "function", "->", "-", "0", "12", "Big_Label!", "p0", "a#", "x" * 5000):
            text = f"function main 0\nhalt\n{label}:\njump {label}\nend"
            self.assertEqual(body_of(text), (("halt",), ("jump", 1)), label)

    def test_behind_the_last_instruction(self):
        for text in ("function main 0\nhalt\njump a\na:\nend", "function main 0\nhalt\nwhen a\na:\nb:\nend"):
            with self.assertRaises(BadProgram) as caught:
                assemble(text)
            error = caught.exception
            self.assertEqual((error.part, error.number, error.place, error.why), ("body", 0, 1, "operand"))

    def test_only_places_are_told_by_labels(self):
        text = "record a value:num\nstatic a num\nfunction a 1\na:\nfetch a\ncall a\nmake a\nload 0\njump a\nend"
        wanted = (("fetch", "a"), ("call", "a"), ("make", "a"), ("load", 0), ("jump", 0))
        self.assertEqual(body_of(text), wanted)


class IntegersTest(unittest.TestCase):

    RIGHT = (("0", 0), ("1", 1), ("-1", -1), ("10", 10), ("-10", -10), ("-2147483648", -2147483648),
             ("2147483647", 2147483647), ("1000000000", 1000000000), ("-1000000000", -1000000000))
    WRONG = ("-", "+", "+1", "-0", "00", "-00", "01", "-01", "007", "--1", "1-", "1.0", "1e3", "0x1", "1_0",
             "a", "1a", "a1", "num", "10000000000", "-10000000000", "00000000001",
             "9" * 5000, "-" * 5000, "-" + "1" * 5000)

    def test_numbers(self):
        for word, number in self.RIGHT:
            self.assertEqual(body_of(f"function main 0\nnum {word}\nend"), (("num", number),))

    def test_slots(self):
        self.assertEqual(body_of("function main 16\nload 0\nstore 15\nend"), (("load", 0), ("store", 15)))
        self.assertEqual(assemble("function main 10\nhalt\nend").functions[0].slots, 10)

    def test_ten_digits_out_of_range(self):
        for word in ("2147483648", "-2147483649", "9999999999", "-9999999999"):
            with self.assertRaises(BadProgram) as caught:
                assemble(f"function main 0\nnum {word}\nend")
            self.assertEqual(caught.exception.why, "operand")
        for word in ("17", "-1", "9999999999", "-9999999999"):
            with self.assertRaises(BadProgram) as caught:
                assemble(f"function main {word}\nhalt\nend")
            self.assertEqual(caught.exception.why, "slots")
        for word in ("1", "-1", "9999999999"):
            with self.assertRaises(BadProgram) as caught:
                assemble(f"function main 1\nload {word}\nend")
            self.assertEqual(caught.exception.why, "operand")

    def test_words_that_are_no_integers(self):
        for word in self.WRONG:
            for text in ("\nfunction main 0\nnum {}\nend", "\nfunction main 16\nstore {}\nend",
                         "\nfunction main 16\nload {}\nend", "\n\nfunction main {}\nend"):
                with self.assertRaises(BadText) as caught:
                    assemble(text.replace("{}", word))
                self.assertEqual((caught.exception.line, caught.exception.why), (3, "number"), word)

    def test_examples(self):
        text = "# two shapes\npair tie box num\nrecord box\nfunction main 1 num\n  # nothing\n  back\nend"
        shapes = (("tie", "pair", (("key", "box"), ("value", "num"))), ("box", "record", ()))
        self.assertEqual(assemble(text).data(), (shapes, (), (("main", ("num",), None, 1, (("back",),)),)))


if __name__ == "__main__":
    unittest.main()
