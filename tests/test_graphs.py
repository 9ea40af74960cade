"""Points 34 to 37 and 39: what is held, what is held strongly, and what a settling does."""

import unittest

from quietbroom.graphs import held_order, held_words, program_settling, strong_set
from quietbroom.programs import make_program
from tests.objects import PROGRAM, naive_order, naive_settling, naive_strong, random_standing
from tests.samples import as_lists

# The objects are known by letters in these tests; a reference to A is 2, one to B is 4, and so on.
A, B, C, D, E, F, G = range(2, 16, 2)
EMPTY = ("bare", ())


def box(following=0, row=0, value=1):
    """A record."""
    return "box", (value, following, row)


def as_tuples(value):
    """The value with tuples in place of lists."""
    if isinstance(value, (list, tuple)):
        return tuple(as_tuples(part) for part in value)
    return value


class HeldTest(unittest.TestCase):

    def held(self, rows, objects, order, words):
        for some in ((rows, objects), (as_lists(rows), as_lists(objects)), (as_tuples(rows), as_tuples(objects))):
            before = as_lists(some)
            self.assertEqual(held_order(*some), order)
            self.assertIs(type(held_order(*some)), tuple)
            self.assertEqual(held_words(*some), words)
            self.assertEqual(as_lists(some), before)

    def test_nothing(self):
        self.held([], [], (), 0)
        self.held([[], [], []], [box(), EMPTY], (), 0)
        self.held([[0, 1, 3, -1, -3]], [box(), EMPTY], (), 0)

    def test_rows_in_their_order(self):
        objects = [EMPTY] * 7
        self.held([[C], [A]], objects, (2, 0), 4)
        self.held([[G, 1, F], [], [0, E], [D]], objects, (6, 5, 4, 3), 8)

    def test_references_that_occur_twice(self):
        self.held([[B, B, A], [A, B, C]], [EMPTY] * 4, (1, 0, 2), 6)
        self.held([[A, A]], [box(B), box(B)], (0, 1), 10)

    def test_payloads_in_the_order_of_the_objects(self):
        objects = [("row", (D, 0, C)), box(E), ("row", ()), EMPTY, EMPTY]
        self.held([[B], [A]], objects, (1, 0, 4, 3, 2), 5 + 5 + 2 + 2 + 2)
        self.held([[A, B]], objects, (0, 1, 3, 2, 4), 16)

    def test_level_by_level(self):
        objects = [("row", (B, C)), ("row", (D,)), ("row", (E,)), ("row", (F,)), EMPTY, EMPTY]
        self.held([[A]], objects, (0, 1, 2, 3, 4, 5), 4 + 3 + 3 + 3 + 2 + 2)

    def test_cycles(self):
        self.held([[A]], [box(A)], (0,), 5)
        self.held([[B]], [box(B), box(C), box(A), box(A)], (1, 2, 0), 15)
        self.held([[]], [box(B), box(A)], (), 0)

    def test_what_is_not_held(self):
        self.held([[B]], [box(C), box(D), box(E), box(), box()], (1, 3), 10)

    def test_all_four_forms_hold(self):
        objects = [("look", (B,)), ("tie", (C, D)), box(0, E), ("tie", (0, 0)), ("row", (0, A)), ("sums", (3, 5, 7))]
        self.held([[A]], objects, (0, 1, 2, 3, 4), 3 + 4 + 5 + 4 + 4)
        self.held([[F]], objects, (5,), 5)

    def test_long_arrays_and_long_chains(self):
        chain = [box(2 * number + 4) for number in range(4999)] + [box()]
        self.held([[A]], chain, tuple(range(5000)), 25000)
        self.held([[B], [A]], [("row", (B,) * 1000), ("sums", (1,) * 1000)], (1, 0), 2004)

    def test_random_standings(self):
        for seed in range(500):
            rows, watched, parted, objects = random_standing(seed)
            rows = rows + [watched, parted]
            order = naive_order(rows, objects)
            self.held(rows, objects, order, sum(len(objects[number][1]) + 2 for number in order))

    def test_by_name(self):
        self.assertEqual(held_order(objects=[EMPTY], rows=[[A]]), (0,))
        self.assertEqual(held_words(objects=[EMPTY], rows=[[A]]), 2)

    def test_example(self):
        objects = [("b", [6]), ("b", []), ("b", [0]), ("b", [2])]
        self.held([[4], [1, 2]], objects, (1, 0, 2), 8)


class StrongTest(unittest.TestCase):

    def strong(self, rows, objects, wanted):
        for some in ((rows, objects), (as_lists(rows), as_lists(objects)), (as_tuples(rows), as_tuples(objects))):
            before = as_lists(some)
            self.assertEqual(strong_set(PROGRAM, *some), wanted)
            self.assertIs(type(strong_set(PROGRAM, *some)), tuple)
            self.assertEqual(as_lists(some), before)

    def test_nothing(self):
        self.strong([], [], ())
        self.strong([[0, 1]], [box(), EMPTY], ())

    def test_records_and_arrays(self):
        self.strong([[C]], [box(B), box(), box(A), box(A)], (0, 1, 2))
        self.strong([[A]], [("row", (B, 0, C)), ("look", (0,)), ("look", (0,)), ("look", (0,))], (0, 1, 2))
        self.strong([[A]], [box(0, B), ("row", (0,))], (0, 1))

    def test_ascending_order(self):
        self.strong([[G, F], [E, A]], [EMPTY] * 7, (0, 4, 5, 6))
        self.strong([[C]], [box(), box(A), box(B)], (0, 1, 2))

    def test_a_weak_cell_does_not_hold_strongly(self):
        self.strong([[A]], [("look", (B,)), ("tie", (0, 0))], (0,))
        self.strong([[A, B]], [("look", (B,)), ("tie", (0, 0))], (0, 1))
        self.strong([[A]], [("self", (A,))], (0,))
        self.strong([[A]], [("self", (B,)), ("self", (A,))], (0,))

    def test_a_pair_holds_its_value_by_its_key(self):
        objects = [("tie", (B, C)), box(), ("tie", (0, 0))]
        self.strong([[A]], objects, (0,))
        self.strong([[A, B]], objects, (0, 1, 2))
        self.strong([[B], [A]], objects, (0, 1, 2))
        self.strong([[B]], objects, (1,))
        self.strong([[A, C]], objects, (0, 2))

    def test_a_pair_does_not_hold_its_key(self):
        self.strong([[A]], [("tag", (B, 7)), ("tie", (0, 0))], (0,))
        self.strong([[A]], [("tag", (B, 7)), ("tie", (C, 0)), box()], (0,))

    def test_a_key_that_is_held_later(self):
        # The key becomes held strongly by a chain that is longer than the way to the pair.
        objects = [("tie", (D, E)), box(C), box(D), box(), ("tie", (0, 0))]
        self.strong([[A, B]], objects, (0, 1, 2, 3, 4))
        self.strong([[A], [C]], objects, (0, 2, 3, 4))
        self.strong([[B]], objects, (1, 2, 3))

    def test_chains_of_pairs(self):
        # The value of each pair is the next one; all have their own keys.
        objects = [("tie", (E, B)), ("tie", (F, C)), ("tie", (G, D)), ("tie", (0, 0)), box(), box(), box()]
        self.strong([[A, E, F, G]], objects, tuple(range(7)))
        self.strong([[A, E, G]], objects, (0, 1, 4, 6))
        self.strong([[G, F, E, A]], objects, tuple(range(7)))
        self.strong([[A, F, G]], objects, (0, 5, 6))

    def test_a_value_that_makes_a_key_held(self):
        shapes = (("box", "record", (("next", "box"),)), ("tie", "pair", (("key", "box"), ("value", "box"))))
        program = make_program(shapes, (), (("main", (), None, 0, (("halt",),)),))
        # Pair A: key D, value E; pair B: key E, value F; pair C: key F, value G.
        objects = [("tie", (D, E)), ("tie", (E, F)), ("tie", (F, G))] + [("box", (0,))] * 4
        self.assertEqual(strong_set(program, [[A, B, C]], objects), (0, 1, 2))
        self.assertEqual(strong_set(program, [[C, B, A, D]], objects), tuple(range(7)))
        self.assertEqual(strong_set(program, [[A, B, C, E]], objects), (0, 1, 2, 4, 5, 6))
        self.assertEqual(strong_set(program, [[A, C, D]], objects), (0, 2, 3, 4))

    def test_pairs_that_hold_one_another(self):
        shapes = (("tie", "pair", (("key", "tie"), ("value", "tie"))),)
        program = make_program(shapes, (), (("main", (), None, 0, (("halt",),)),))
        self.assertEqual(strong_set(program, [[A]], [("tie", (A, B)), ("tie", (0, 0))]), (0, 1))
        self.assertEqual(strong_set(program, [[A]], [("tie", (B, B)), ("tie", (A, A))]), (0,))
        self.assertEqual(strong_set(program, [[A]], [("tie", (A, B)), ("tie", (A, C)), ("tie", (B, D)), ("tie", (0, 0))]),
                         (0, 1, 2, 3))
        self.assertEqual(strong_set(program, [[A, B]], [("tie", (C, D)), ("tie", (D, C)), ("tie", (0, 0)),
                                                       ("tie", (0, 0))]), (0, 1))

    def test_several_pairs_wait_for_one_key(self):
        objects = [("tie", (D, E)), ("tie", (D, F)), box(D), box(), ("tie", (0, 0)), ("tie", (0, 0))]
        self.strong([[A, B, C]], objects, (0, 1, 2, 3, 4, 5))
        self.strong([[B, C]], objects, (1, 2, 3, 5))
        self.strong([[A, B]], objects, (0, 1))

    def test_a_value_that_is_a_number(self):
        self.strong([[A, B]], [("tag", (B, 6 + 1)), ("tie", (0, 0)), box()], (0, 1))

    def test_a_cleared_pair(self):
        self.strong([[A, B]], [("tie", (0, 0)), ("tag", (0, 1)), box()], (0, 1))

    def test_a_long_chain_of_pairs(self):
        shapes = (("tie", "pair", (("key", "tie"), ("value", "tie"))),)
        program = make_program(shapes, (), (("main", (), None, 0, (("halt",),)),))
        count = 20000
        chain = [("tie", (2 * number + 2, 2 * number + 4)) for number in range(count)] + [("tie", (0, 0))]
        self.assertEqual(strong_set(program, [[2]], chain), tuple(range(count + 1)))

    def test_random_standings(self):
        for seed in range(1500):
            rows, watched, parted, objects = random_standing(seed)
            self.strong(rows, objects, naive_strong(rows, objects))
            self.strong(rows + [parted], objects, naive_strong(rows + [parted], objects))

    def test_by_name(self):
        self.assertEqual(strong_set(objects=[EMPTY], rows=[[A]], program=PROGRAM), (0,))


LINKS = (
    ("box", "record", (("next", "box"),)),
    ("link", "pair", (("key", "box"), ("value", "box"))),
    ("peep", "weak", (("target", "box"),)),
)


class SettlingTest(unittest.TestCase):

    def settled(self, rows, watched, parted, objects, wanted):
        for change in (as_lists, as_tuples):
            some = [change(part) for part in (rows, watched, parted, objects)]
            before = as_lists(some)
            told = program_settling(PROGRAM, *some)
            self.assertEqual(told, wanted)
            self.assertEqual(as_tuples(told), told)
            self.assertEqual(as_lists(some), before)
        # A second settling changes nothing.
        self.assertEqual(program_settling(PROGRAM, rows, *wanted), wanted)
        # Behind a settling everything that is held is held strongly.
        stays, parts, after = wanted
        held = held_order([*rows, stays, parts], after)
        self.assertEqual(tuple(sorted(held)), strong_set(PROGRAM, [*rows, parts], after))

    def test_nothing(self):
        self.settled([], [], [], [], ((), (), ()))
        self.settled([[]], [], [], [box(), EMPTY], ((), (), (box(), EMPTY)))

    def test_a_weak_cell_that_is_held(self):
        tie = ("tie", (0, 0))
        self.settled([[A]], [], [], [("look", (B,)), tie], ((), (), (("look", (0,)), tie)))
        self.settled([[A, B]], [], [], [("look", (B,)), tie], ((), (), (("look", (B,)), tie)))

    def test_a_weak_cell_that_is_not_held(self):
        tie = ("tie", (0, 0))
        self.settled([[]], [], [], [("look", (B,)), tie], ((), (), (("look", (0,)), tie)))
        self.settled([[B]], [], [], [("look", (B,)), tie], ((), (), (("look", (B,)), tie)))

    def test_pairs_that_are_held_or_not(self):
        tie, tag = ("tie", (C, A)), ("tag", (A, 15))
        self.settled([[A, B]], [], [], [tie, tag, box()], ((), (), (("tie", (0, 0)), tag, box())))
        self.settled([[A, B, C]], [], [], [tie, tag, box()], ((), (), (tie, tag, box())))
        self.settled([[B]], [], [], [tie, tag, box()], ((), (), (("tie", (0, 0)), ("tag", (0, 1)), box())))
        self.settled([[C]], [], [], [tie, tag, box()], ((), (), (tie, ("tag", (0, 1)), box())))

    def test_the_blank_word_of_the_kind_of_the_value(self):
        objects = [("tag", (C, 7)), ("tie", (D, C)), ("tie", (0, 0)), box()]
        cleared = (("tag", (0, 1)), ("tie", (0, 0)), ("tie", (0, 0)), box())
        self.settled([[A, B]], [], [], objects, ((), (), cleared))

    def test_values_are_cleared_with_their_keys_alone(self):
        # The value is held strongly, the key is not.
        objects = [("tie", (B, C)), box(), ("tie", (0, 0))]
        self.settled([[A, C]], [], [], objects, ((), (), (("tie", (0, 0)), box(), ("tie", (0, 0)))))

    def test_records_and_arrays_stay(self):
        objects = [box(B, C), box(A, D), ("row", (E, 0)), ("row", ()), ("look", (0,)), ("sums", (3, -5))]
        self.settled([[]], [], [], objects, ((), (), tuple(objects)))

    def test_watched_references_part(self):
        self.settled([[A]], [A, B], [], [box(), box()], ((A,), (B,), (box(), box())))
        self.settled([[]], [B, A], [], [box(), box()], ((), (B, A), (box(), box())))
        self.settled([[A, B]], [B, A], [], [box(), box()], ((B, A), (), (box(), box())))

    def test_the_same_reference_several_times(self):
        objects = [EMPTY] * 4
        self.settled([[B]], [A, B, A, C, B, C, A], [], objects, ((B, B), (A, A, C, C, A), tuple(objects)))

    def test_parted_references_stay_and_hold_strongly(self):
        objects = [box(B), box(), box()]
        self.settled([[]], [A, B, C], [A], objects, ((A, B), (A, C), tuple(objects)))
        self.settled([[]], [C], [B, A, B], objects, ((), (B, A, B, C), tuple(objects)))

    def test_watching_holds_nothing_strongly(self):
        objects = [("look", (B,)), ("tie", (0, 0))]
        self.settled([[A]], [B], [], objects, ((), (B,), (("look", (0,)), ("tie", (0, 0)))))
        self.settled([[A]], [], [B], objects, ((), (B,), tuple(objects)))

    def test_what_parts_was_not_held_strongly_when_pairs_were_cleared(self):
        objects = [("tie", (B, 0)), box()]
        self.settled([[A]], [B], [], objects, ((), (B,), (("tie", (0, 0)), box())))

    def test_what_hangs_on_a_watched_object(self):
        objects = [box(B), box(), ("tie", (B, 0))]
        self.settled([[C]], [A, B], [], objects, ((), (A, B), (box(B), box(), ("tie", (0, 0)))))

    def test_pairs_that_hold_one_another(self):
        shapes = (("tie", "pair", (("key", "tie"), ("value", "tie"))),)
        program = make_program(shapes, (), (("main", (), None, 0, (("halt",),)),))
        objects = [("tie", (B, B)), ("tie", (A, A)), ("tie", (C, A))]
        told = program_settling(program, [[A]], [C], [], objects)
        self.assertEqual(told, ((), (C,), (("tie", (0, 0)), ("tie", (A, A)), ("tie", (0, 0)))))

    def test_random_standings(self):
        for seed in range(1500):
            rows, watched, parted, objects = random_standing(seed)
            self.settled(rows, watched, parted, objects, naive_settling(rows, watched, parted, objects))

    def test_answers_are_of_their_own(self):
        rows, watched, parted, objects = [[A]], [B, A], [C], [["box", [1, A, 0]], ["box", [1, 0, 0]], ["bare", []]]
        told = program_settling(parted=parted, objects=objects, rows=rows, watched=watched, program=PROGRAM)
        watched.clear()
        parted.append(A)
        objects[0][1][1] = B
        self.assertEqual(told, ((A,), (C, B), (("box", (1, A, 0)), ("box", (1, 0, 0)), ("bare", ()))))

    def test_examples(self):
        program = make_program(LINKS, [], [("main", [], None, 0, [("back",)])])
        objects = [("box", [0]), ("link", [2, 6]), ("box", [0]), ("link", [10, 12]), ("box", [0]), ("box", [10]),
                   ("peep", [12])]
        self.assertEqual(strong_set(program, [[4, 8, 2, 14]], objects), (0, 1, 2, 3, 6))
        self.assertEqual(program_settling(program, [[4, 8, 2, 14]], [10, 2], [], objects), (
            (2,), (10,), (("box", (0,)), ("link", (2, 6)), ("box", (0,)), ("link", (0, 0)), ("box", (0,)),
                          ("box", (10,)), ("peep", (0,)))))


if __name__ == "__main__":
    unittest.main()
