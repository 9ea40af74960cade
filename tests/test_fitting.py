"""Point 74: which pictures fit a program, step by step."""

import unittest

from quietbroom.assembler import assemble
from quietbroom.checker import kind_tables
from quietbroom.fitting import picture_fault
from quietbroom.pictures import Picture
from quietbroom.plain import PlainMachine
from tests.samples import as_lists

LOW, HIGH = -2147483648, 2147483647

TEXT = """
record box value:num next:box
record bare
array row box
array nums num
weak look box
pair tie box num
pair knot box tie
static best num
static kept box
static rows row
function main 4 num
  num 1
  store 1
  make box
  store 2
  load 0
  when turn
  nil box
  store 3
  jump on
turn:
  num 4
  store 3
on:
  num 9
  load 2
  num 7
  call work
  drop
  drop
  back
  num 3
  tell
  back
end
function work 3 box num -> tie
  nil row
  call last
  drop
  load 0
  load 1
  pair tie
  back
end
function last 1 row -> num
  load 0
  empty row
  back
end
function idle 0
  call idle
  halt
end
"""
PROGRAM = assemble(TEXT)
# The places of the instructions that the tests speak of.
MAIN_CALL, MAIN_AFTER, WORK_AFTER = 14, 15, 2


class Standing:
    """The parts of a picture that fits, for changes."""

    def __init__(self):
        self.statics = [3, 2, 4]
        self.frames = [["main", MAIN_AFTER, [5, 3, 2, 9], [19]], ["work", WORK_AFTER, [2, 15, 0], []], ["last", 1, [4], [4]]]
        self.watched = [6, 2]
        self.parted = [8]
        self.objects = [["box", [7, 10]], ["row", [0, 2, 10]], ["look", [2]], ["knot", [10, 12]], ["box", [1, 0]], ["tie", [2, 9]]]

    def picture(self):
        return Picture(self.statics, self.frames, self.watched, self.parted, self.objects)


class FaultTest(unittest.TestCase):

    def fault(self, standing, wanted, program=PROGRAM):
        picture = standing if isinstance(standing, Picture) else standing.picture()
        self.assertEqual(picture_fault(program, picture), wanted)

    def changed(self, wanted, **more):
        """The fault of the picture that fits, with other parts."""
        standing = Standing()
        for name, worth in more.items():
            setattr(standing, name, worth)
        self.fault(standing, wanted)


class GoodTest(FaultTest):

    def test_it_fits(self):
        self.fault(Standing(), None)
        self.assertIsNone(picture_fault(program=PROGRAM, picture=Standing().picture()))

    def test_no_frames(self):
        for frames in ([], ()):
            standing = Standing()
            standing.frames = frames
            self.fault(standing, None)

    def test_nothing_at_all(self):
        self.fault(Picture([], [], [], [], []), None, assemble("function main 0\nback\nend"))

    def test_nothing_is_changed(self):
        picture = Standing().picture()
        picture_fault(PROGRAM, picture)
        self.assertEqual(picture, Standing().picture())


class StaticsTest(FaultTest):

    def test_count(self):
        for statics in ([], [3], [3, 2], [3, 2, 4, 0], [3, 2, 4, 1], ["any"] * 9):
            self.changed(("static", 0, "count"), statics=statics)

    def test_kinds(self):
        for number, wrong in ((0, 0), (0, 2), (0, 4), (0, 2 * HIGH + 3), (0, 2 * LOW - 1), (1, 1), (1, -1), (1, 4), (1, 14), (1, -2),
                              (1, 10 ** 30), (2, 2), (2, 3), (2, -4), (2, 12), (2, 200)):
            standing = Standing()
            standing.statics[number] = wrong
            self.fault(standing, ("static", number, "kind"))

    def test_just_inside(self):
        for word in (2 * HIGH + 1, 2 * LOW + 1, 1, -1):
            standing = Standing()
            standing.statics[0] = word
            self.fault(standing, None)
        self.changed(("object", 0, "order"), statics=[3, 10, 4])
        self.changed(None, statics=[1, 0, 0])

    def test_the_first_one(self):
        self.changed(("static", 1, "kind"), statics=[1, 3, 3], frames=[["?", 0, [], []]], watched=[0])


class FramesTest(FaultTest):

    DEEP = assemble("function main 0\ncall main\nback\nend")

    def test_many(self):
        for count in (1, 2, 39, 40):
            frames = [("main", 1, [], [])] * (count - 1) + [("main", 0, [], [])]
            self.fault(Picture([], frames, [], [], []), None, self.DEEP)
        for count in (41, 42, 100):
            self.fault(Picture([], [("main", 1, [], [])] * count, [], [], []), ("frame", 0, "many"), self.DEEP)
            self.fault(Picture([], [("x", 1, [1], [0])] * count, [0], [], []), ("frame", 0, "many"), self.DEEP)

    def frame(self, number, place, worth, why):
        """The picture that fits, with one part of a frame changed."""
        standing = Standing()
        standing.frames[number][place] = worth
        if why is None:
            # The objects may be met in another order then.
            fault = picture_fault(PROGRAM, standing.picture())
            self.assertTrue(fault is None or fault[2] == "order", fault)
        else:
            self.fault(standing, ("frame", number, why))

    def test_function(self):
        for number in range(3):
            for name in ("", "box", "num", "best", "Main", "main2"):
                # For the frame below, the call is of another function.
                standing = Standing()
                standing.frames[number][0] = name
                self.fault(standing, ("frame", number - 1, "call") if number else ("frame", 0, "function"))
        standing = Standing()
        standing.frames = [["nowhere", -3, [9], [9]]]
        self.fault(standing, ("frame", 0, "function"))

    def test_function_of_a_frame_above(self):
        # The lower frame is wrong whenever the upper one is of a function that is not there.
        standing = Picture([1, 0, 0], [("main", MAIN_AFTER, [5, 3, 0, 9], [19]), ("other", 0, [], [])], [], [], [])
        self.fault(standing, ("frame", 0, "call"))

    def test_entry(self):
        for name in ("work", "last", "idle"):
            standing = Standing()
            standing.frames = [[name, 300, [0] * 9, [1] * 9]]
            self.fault(standing, ("frame", 0, "entry"))
        program = assemble("function main 0\ncall main\nback\nend")
        self.fault(Picture([], [("main", 1, [], []), ("main", 1, [], [])], [], [], []), None, program)

    def test_place(self):
        for number, length in ((0, 21), (1, 7), (2, 3)):
            for place in (-1, -7, length, length + 1, 10 ** 9):
                self.frame(number, 1, place, "place")

    def test_a_place_that_no_walk_reaches(self):
        standing = Standing()
        for place, why in ((17, "slots"), (18, "place"), (19, "place"), (20, "place")):
            standing.frames = [["main", place, [5], []]]
            self.fault(standing, ("frame", 0, why))
        self.assertEqual([place for place, entry in enumerate(kind_tables(PROGRAM)[0]) if entry is None], [18, 19, 20])

    def test_a_lower_frame_at_a_place_that_no_walk_reaches(self):
        text = "function main 0\njump end\ncall work\nback\nend:\ncall never\nback\nend\nfunction work 0\nback\nend\nfunction never 0\n{}\nend"
        # Behind a call of a function that never comes back stands a place all the same.
        program = assemble(text.format("halt"))
        self.fault(Picture([], [("main", 4, [], []), ("never", 0, [], [])], [], [], []), None, program)
        self.fault(Picture([], [("main", 2, [], []), ("work", 0, [], [])], [], [], []), ("frame", 0, "call"), program)
        self.fault(Picture([], [("main", 2, [], [])], [], [], []), ("frame", 0, "place"), program)

    def test_call(self):
        for place in (0, 1, 2, 13, 14, 16, 17):
            self.frame(0, 1, place, "call")
        for place in (0, 1, 3, 6):
            self.frame(1, 1, place, "call")
        standing = Standing()
        del standing.frames[1]
        self.fault(standing, ("frame", 0, "call"))
        standing = Standing()
        standing.frames[1:] = [["work", 0, [0, 1, 0], []], ["work", 0, [0, 1, 0], []]]
        self.fault(standing, ("frame", 1, "call"))

    def test_slots_of_the_top_frame(self):
        for slots in ([], [4, 0], [3], [2], [6], [10], [-2], [12]):
            self.frame(2, 2, slots, "slots")
        self.frame(2, 2, [0], None)

    def test_slots_of_a_lower_frame(self):
        for slots in ([2, 15], [2, 15, 0, 0], [4, 15, 0], [15, 2, 0], [2, 0, 0], [2, 2, 0], [3, 15, 0]):
            self.frame(1, 2, slots, "slots")
        self.frame(1, 2, [10, -1, 0], None)

    def test_stack_of_the_top_frame(self):
        for stack in ([], [4, 4], [3], [2], [12], [-2]):
            self.frame(2, 3, stack, "stack")
        self.frame(2, 3, [0], None)

    def test_stack_of_a_lower_frame(self):
        # The arguments on top of it are gone.
        for stack in ([], [19, 2], [19, 2, 15], [2], [0], [2 * HIGH + 3]):
            self.frame(0, 3, stack, "stack")
        for stack in ([0], [1], [4]):
            self.frame(1, 3, stack, "stack")
        self.frame(0, 3, [-19], None)

    def test_slots_come_before_the_stack(self):
        standing = Standing()
        standing.frames[1][2:] = [[], [3]]
        standing.frames[2] = ["last", 9, [], []]
        self.fault(standing, ("frame", 1, "slots"))
        standing.frames[1][2:] = [[2, 15, 0], [3]]
        self.fault(standing, ("frame", 1, "stack"))
        standing.frames[1][3] = []
        self.fault(standing, ("frame", 2, "place"))

    def test_mixed_slots(self):
        self.assertEqual(kind_tables(PROGRAM)[0][MAIN_CALL][0], ("num", "num", "box", "mixed"))
        for word in (0, 1, -1, 2 * HIGH + 1, 2 * LOW + 1, 2, 4, 6, 8, 10, 12):
            self.frame(0, 2, [5, 3, 2, word], None)
        for word in (2 * HIGH + 3, 2 * LOW - 1, 14, 100, -2, -4):
            self.frame(0, 2, [5, 3, 2, word], "slots")

    def test_unset_slots(self):
        self.assertEqual(kind_tables(PROGRAM)[1][1][0], ("box", "num", "unset"))
        for word in (0, 1, -1, 2 * HIGH + 1, 2 * LOW + 1, 2, 4, 6, 8, 10, 12):
            self.frame(1, 2, [2, 15, word], None)
        for word in (2 * HIGH + 3, 2 * LOW - 1, 14, 100, -2, -4):
            self.frame(1, 2, [2, 15, word], "slots")

    def test_a_reference_to_an_object_of_no_shape_of_the_program(self):
        standing = Standing()
        standing.objects[2][0] = "lock"
        self.fault(standing, ("object", 2, "shape"))
        for number, slots in ((0, [5, 3, 2, 6]), (1, [2, 15, 6])):
            kept = standing.frames[number][2]
            standing.frames[number][2] = slots
            self.fault(standing, ("frame", number, "slots"))
            standing.frames[number][2] = kept

    def test_the_kinds_at_the_place_of_the_call(self):
        # Slot 0 is stored with another kind right behind the call.
        program = assemble("record box value:num\nfunction main 1\nnum 1\nstore 0\nnum 2\nnum 3\ncall work\nstore 0\ndrop\nback\nend\n"
                           "function work 1 num -> box\nnil box\nback\nend")
        self.fault(Picture([], [("main", 5, [3], [5]), ("work", 0, [7], [])], [], [], []), None, program)
        self.fault(Picture([], [("main", 5, [3], [5, 7]), ("work", 0, [7], [])], [], [], []), ("frame", 0, "stack"), program)
        self.fault(Picture([], [("main", 5, [0], [5]), ("work", 0, [7], [])], [], [], []), ("frame", 0, "slots"), program)
        # As the top frame it has the result on its stack.
        self.fault(Picture([], [("main", 5, [3], [5, 0])], [], [], []), None, program)
        self.fault(Picture([], [("main", 5, [3], [5])], [], [], []), ("frame", 0, "stack"), program)


class ListsTest(FaultTest):

    def test_watched_and_parted(self):
        for wrong in (0, 1, 3, -1, -2, 14, 16, 10 ** 20):
            self.changed(("watched", 0, "kind"), watched=[wrong, wrong])
            self.changed(("watched", 2, "kind"), watched=[6, 2, wrong, 0], parted=[0])
            self.changed(("parted", 1, "kind"), parted=[8, wrong, 0])
            self.changed(("parted", 0, "kind"), parted=[wrong])

    def test_objects_of_every_shape_may_stand_there(self):
        self.changed(None, watched=[6, 2, 4, 6, 8, 10, 12, 2], parted=[8, 2, 4, 6, 8, 10, 12, 12])

    def test_an_object_of_no_shape_of_the_program(self):
        standing = Standing()
        standing.objects[2][0] = "lock"
        self.fault(standing, ("object", 2, "shape"))


class ObjectsTest(FaultTest):

    def object(self, number, worth, why):
        standing = Standing()
        standing.objects[number] = worth
        self.fault(standing, why if why is None else ("object", number, why))

    def test_shape(self):
        for name in ("", "Box", "num", "boxes", "main"):
            standing = Standing()
            standing.objects = [["box", [1, 0]], ["row", []], ["look", [0]], ["tie", [0, 1]], [name, []]]
            standing.frames, standing.parted = [], [8, 10]
            self.fault(standing, ("object", 4, "shape"))

    def test_lengths(self):
        for name, payload in (("box", []), ("box", [1]), ("box", [1, 0, 1]), ("bare", [1]), ("bare", [0])):
            standing = Standing()
            standing.objects[4:5] = [[name, payload]]
            standing.objects[0], standing.objects[1], standing.objects[3] = ["box", [7, 0]], ["row", [0, 2]], ["knot", [0, 0]]
            standing.parted = [8, 10]
            del standing.objects[5]
            self.fault(standing, ("object", 4, "length"))
        for number, payload in ((2, []), (2, [0, 0]), (5, [2]), (5, []), (5, [2, 9, 1]), (3, [10]), (3, [10, 12, 0])):
            self.object(number, [Standing().objects[number][0], payload], "length")

    def test_lengths_of_arrays(self):
        for length, why in ((0, None), (1, None), (999, None), (1000, None), (1001, "length"), (2000, "length")):
            for kind, blank in (("row", 0), ("nums", 1)):
                picture = Picture([1, 0, 0], [], [2], [], [(kind, [blank] * length)])
                self.fault(picture, why if why is None else ("object", 0, why))

    def test_kinds(self):
        for number, payload in ((0, [0, 10]), (0, [2, 10]), (0, [2 * HIGH + 3, 10]), (0, [2 * LOW - 1, 10]), (0, [7, 3]), (0, [7, 4]),
                                (0, [7, 14]), (0, [7, -2]), (1, [0, 2, 3]), (1, [4, 2, 10]), (1, [0, 6, 10]), (2, [1]), (2, [4]), (2, [14]),
                                (5, [3, 9]), (5, [4, 9]), (5, [2, 0]), (5, [2, 2]), (3, [10, 10]), (3, [10, 3]), (3, [12, 12]), (3, [3, 12])):
            self.object(number, [Standing().objects[number][0], payload], "kind")
        picture = Picture([1, 0, 0], [], [2], [], [("nums", [1, 3, 0])])
        self.fault(picture, ("object", 0, "kind"))

    def test_just_inside(self):
        self.object(0, ["box", [2 * HIGH + 1, 10]], None)
        self.object(0, ["box", [2 * LOW + 1, 10]], None)
        self.object(2, ["look", [0]], None)
        self.object(5, ["tie", [10, 2 * HIGH + 1]], None)

    def test_pairs_that_were_cleared(self):
        self.object(5, ["tie", [0, 1]], None)
        for value in (3, -1, 9):
            self.object(5, ["tie", [0, value]], "pair")
        self.object(3, ["knot", [0, 12]], "pair")
        # A key alone does not ask for a value.
        standing = Standing()
        standing.objects[3], standing.parted = ["knot", [10, 0]], [8, 10, 12]
        self.fault(standing, None)
        standing.objects[3], standing.parted = ["knot", [0, 0]], [8, 10, 12]
        self.fault(standing, None)

    def test_the_reasons_in_their_order(self):
        self.object(5, ["tie", [0, 3, 1]], "length")
        self.object(5, ["tie", [0, 0]], "kind")
        self.object(5, ["tie", [0, 3]], "pair")
        standing = Standing()
        standing.objects[3], standing.objects[5] = ["knot", [0, 12]], ["tie", [0, 0]]
        self.fault(standing, ("object", 3, "pair"))


class OrderTest(FaultTest):

    def order(self, number, objects, rows=()):
        """A picture whose watched list has these words."""
        self.fault(Picture([1, 0, 0], [], rows, [], objects), None if number is None else ("object", number, "order"))

    def test_objects_that_are_not_held(self):
        self.order(0, [("bare", [])])
        self.order(1, [("bare", []), ("bare", [])], [2])
        self.order(0, [("bare", []), ("bare", [])], [4])
        self.order(2, [("bare", [])] * 4, [2, 4, 8])
        self.order(None, [("bare", [])] * 4, [2, 4, 6, 8])

    def test_the_least_number(self):
        self.order(0, [("bare", [])] * 3, [4, 2, 6])
        self.order(1, [("bare", [])] * 3, [2, 6, 4])
        self.order(1, [("row", [6, 4]), ("box", [1, 0]), ("box", [1, 0])], [2])
        self.order(None, [("row", [4, 6]), ("box", [1, 0]), ("box", [1, 0])], [2])
        self.order(1, [("bare", []), ("bare", []), ("bare", []), ("bare", [])], [2, 6, 4, 8])

    def test_payloads_behind_the_rows(self):
        self.order(1, [("box", [1, 4]), ("box", [1, 0]), ("bare", [])], [2, 6])
        self.order(None, [("box", [1, 6]), ("bare", []), ("box", [1, 0])], [2, 4])

    def test_rows_in_their_order(self):
        self.fault(Picture([1, 4, 0], [], [2], [], [("box", [1, 0])] * 2), ("object", 0, "order"))
        self.fault(Picture([1, 2, 0], [], [4], [], [("box", [1, 0])] * 2), None)
        standing = Standing()
        standing.frames[0][2], standing.frames[2] = [5, 3, 2, 12], ["last", 1, [4], [4]]
        standing.objects[4] = ["tie", [2, 9]]
        self.fault(standing, ("object", 0, "kind"))


class StepsTest(FaultTest):

    def test_the_steps_in_their_order(self):
        """Each change is for the worse in an earlier step than the one before."""
        standing = Standing()
        standing.parted = [8, 4]
        standing.watched = [2, 6]
        self.fault(standing, None)
        standing.objects[3][1] = [10, 0]
        self.fault(standing, ("object", 5, "order"))
        standing.objects[3][1] = [0, 12]
        self.fault(standing, ("object", 3, "pair"))
        standing.parted = [8, 0]
        self.fault(standing, ("parted", 1, "kind"))
        standing.watched = [6, 2, 3]
        self.fault(standing, ("watched", 2, "kind"))
        standing.frames[2][3] = [3]
        self.fault(standing, ("frame", 2, "stack"))
        standing.frames[0][1] = 3
        self.fault(standing, ("frame", 0, "call"))
        standing.statics[2] = 2
        self.fault(standing, ("static", 2, "kind"))
        standing.statics.append(0)
        self.fault(standing, ("static", 0, "count"))

    def test_pictures_of_a_run(self):
        for argument in (0, 1):
            machine = PlainMachine(PROGRAM, [argument])
            while machine.outcome is None:
                self.fault(machine.picture(), None)
                machine.advance()
            self.fault(machine.picture(), None)
            self.assertEqual((machine.outcome, machine.steps), ("done", 25 if argument else 26))

    def test_lists_and_tuples(self):
        standing = Standing()
        parts = [as_lists(part) for part in (standing.statics, standing.frames, standing.watched, standing.parted, standing.objects)]
        self.fault(Picture(*parts), None)

    def test_example(self):
        program = assemble("record box value:num\nstatic s box\nfunction main 0\ncall work\nback\nend\n"
                           "function work 1\nnum 1\nstore 0\nback\nend")
        self.fault(Picture([2], [("main", 1, [], []), ("work", 1, [0], [3])], [], [], [("box", [7])]), None, program)
        self.fault(Picture([2], [("main", 1, [], []), ("work", 2, [0], [])], [], [], [("box", [7])]), ("frame", 1, "slots"), program)


if __name__ == "__main__":
    unittest.main()
