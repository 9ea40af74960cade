"""Point 15: the listing of a program."""

import unittest

from quietbroom.assembler import assemble
from quietbroom.listing import listing
from quietbroom.programs import make_program
from tests.samples import FUNCTIONS, SHAPES, STATICS, random_parts, simple

EVERY_LISTING = """record box value:num next:box
record bare
array row box
weak look tie
pair tie box num
static best num
static kept row
function main 3 num
  num -7
  add
  sub
p3:
  mul
  div
  mod
  less
  same
  flip
  drop
  copy
  swap
  load 0
  store 2
  fetch best
  keep kept
  jump p3
  when p39
  call work
  back
  halt
  tell
  nil tie
  empty row
  twin look
  make bare
  get box value
  put box next
  array row
  at row
  set row
  length row
  weaken look
  peek look
  pair tie
  key tie
  value tie
  watch box
  parted bare
p39:
  settle
end
function work 2 box num -> look
  nil look
  back
end
"""


class ListingTest(unittest.TestCase):

    def test_every_line(self):
        program = make_program(SHAPES, STATICS, FUNCTIONS)
        self.assertEqual(listing(program), EVERY_LISTING)
        self.assertEqual(listing(program=program), EVERY_LISTING)

    def test_the_least_program(self):
        self.assertEqual(listing(make_program(*simple([("halt",)]))), "function main 0\n  halt\nend\n")

    def test_each_named_place_once(self):
        body = [("when", 2), ("jump", 2), ("when", 0), ("jump", 3)]
        wanted = "function main 0\np0:\n  when p2\n  jump p2\np2:\n  when p0\np3:\n  jump p3\nend\n"
        self.assertEqual(listing(make_program(*simple(body))), wanted)

    def test_numbers_and_slots_name_no_place(self):
        body = [("num", 1), ("store", 1), ("load", 0), ("num", 3)]
        wanted = "function main 2\n  num 1\n  store 1\n  load 0\n  num 3\nend\n"
        self.assertEqual(listing(make_program(*simple(body, slots=2))), wanted)

    def test_places_are_named_in_their_own_function(self):
        functions = [("main", [], None, 0, [("jump", 1), ("halt",)]), ("work", [], None, 0, [("halt",), ("halt",)])]
        wanted = "function main 0\n  jump p1\np1:\n  halt\nend\nfunction work 0\n  halt\n  halt\nend\n"
        self.assertEqual(listing(make_program([], [], functions)), wanted)

    def test_results(self):
        functions = [("main", ["num", "num"], None, 4, [("halt",)]), ("work", [], "num", 0, [("halt",)])]
        wanted = "function main 4 num num\n  halt\nend\nfunction work 0 -> num\n  halt\nend\n"
        self.assertEqual(listing(make_program([], [], functions)), wanted)

    def test_it_is_read_back(self):
        parts = [random_parts(seed) for seed in range(60)] + [(SHAPES, STATICS, FUNCTIONS)]
        for some in parts:
            program = make_program(*some)
            self.assertEqual(assemble(listing(program)).data(), program.data())

    def test_the_form_is_one(self):
        for seed in range(20):
            text = listing(make_program(*random_parts(seed)))
            self.assertEqual(listing(assemble(text)), text)
            spread = "\n# more\n".join("  " + line.replace(" ", "  ") for line in text.split("\n"))
            self.assertEqual(listing(assemble(spread)), text)

    def test_example(self):
        text = "static best num\nfunction main 1 num\n\n again:\n load 0\n tell\n load 0\n  when again\n back\nend"
        wanted = "static best num\nfunction main 1 num\np0:\n  load 0\n  tell\n  load 0\n  when p0\n  back\nend\n"
        self.assertEqual(listing(assemble(text)), wanted)


if __name__ == "__main__":
    unittest.main()
