"""Points 68 and 69: both machines tell the same, whenever and however often the collector is called."""

import random
import unittest

from quietbroom.assembler import assemble
from quietbroom.machine import Machine
from tests.alike import DEEDS, Both
from tests.rules import check_memory
from tests.runs import random_run

# A list that is built, gone through and cut, with a weak cell and a pair for each of its nodes.
LISTS = assemble("""
record node value:num next:node
weak look node
pair tag node num
array looks look
array tags tag
static list node
function main 4 num
  load 0
  array looks
  store 1
  load 0
  array tags
  store 2
  num 0
  store 3
more:
  make node
  copy
  load 3
  put node value
  copy
  fetch list
  put node next
  keep list
  load 1
  load 3
  fetch list
  weaken look
  set looks
  load 2
  load 3
  fetch list
  load 3
  pair tag
  set tags
  fetch list
  watch node
  load 3
  num 1
  add
  copy
  store 3
  load 0
  less
  when more
  fetch list
  get node next
  keep list
  settle
  num 0
  store 3
tell:
  load 1
  load 3
  at looks
  peek look
  empty node
  tell
  load 2
  load 3
  at tags
  value tag
  tell
  load 3
  num 1
  add
  copy
  store 3
  load 0
  less
  when tell
again:
  parted node
  copy
  empty node
  when out
  get node value
  tell
  jump again
out:
  drop
  back
end
""")


class AlikeTest(unittest.TestCase):

    def test_every_capacity(self):
        outcomes = []
        for capacity in range(0, 140, 3):
            both = Both(LISTS, [5], capacity=capacity, nursery=capacity // 3, pace=capacity % 4)
            outcomes.append(both.run(capacity))
            if outcomes[-1] == "done":
                self.assertEqual(both.real.told, (0, 0, 0, 1, 0, 2, 0, 3, 1, 0, 4))
        self.assertEqual(sorted(set(outcomes)), ["done", "full"])
        self.assertEqual(sorted(outcomes, reverse=True), outcomes)

    def test_every_nursery_and_pace(self):
        for nursery in (0, 1, 2, 3, 4, 5, 7, 8, 30, 80):
            for pace in (0, 1, 2, 3, 7, 40):
                self.assertEqual(Both(LISTS, [5], capacity=80, nursery=nursery, pace=pace).run(), "done")

    def test_one_call_at_each_instruction(self):
        for name in ("collect", "collect_young", "finish", "collect_all"):
            both = Both(LISTS, [4], capacity=70, nursery=12)
            while True:
                both.deed(name)
                if not both.advance():
                    break
            self.assertEqual(both.real.outcome, "done")

    def test_one_step_in_so_many_instructions(self):
        for every in range(2, 9):
            both, count = Both(LISTS, [4], capacity=60, nursery=every), 0
            while both.advance():
                count += 1
                if count % every == 0:
                    both.deed("collect")
            self.assertEqual(both.real.outcome, "done")

    def test_calls_at_one_moment_only(self):
        """So many steps ahead of one instruction, none at the others."""
        for moment in range(0, 150, 7):
            for steps in (1, 2, 3, 5, 9, 30):
                both, count = Both(LISTS, [3], capacity=50, nursery=moment % 20), 0
                while True:
                    if count == moment:
                        for _ in range(steps):
                            both.deed("collect")
                    count += 1
                    if not both.real.advance() or count > moment + 30:
                        break
                    both.plain.advance()
                    if count > moment:
                        both.compare()

    def test_the_same_program_with_other_schedules_gives_equal_machines(self):
        shown = set()
        for seed in range(8):
            machine, rng = Machine(LISTS, [4], capacity=48, nursery=seed * 6, pace=seed % 3), random.Random(seed)
            while machine.advance():
                for _ in range(rng.randrange(4)):
                    getattr(machine, rng.choice(DEEDS))()
            shown.add((machine.told, machine.outcome, machine.steps, machine.settlings, machine.held_words()))
        self.assertEqual(len(shown), 1)


class RandomTest(unittest.TestCase):

    def test_random_programs(self):
        told, outcomes, steps = {}, {}, 0
        for seed in range(250):
            rng = random.Random(seed)
            capacity = rng.choice((0, 5, 12, 20, 30, 40, 60, 100, 200, 400))
            nursery = rng.choice((0, 0, min(capacity, 3), min(capacity, 7), capacity // 2, capacity))
            most = rng.choice((0, 1, 1, 3))
            both = Both(random_run(seed), [seed % 4], capacity=capacity, nursery=nursery, pace=rng.choice((0, 0, 1, 2, 3, 5)))
            for _ in range(200):
                for what in both.some_deeds(rng, most):
                    told[what] = told.get(what, 0) + 1
                steps += 1
                if not both.advance():
                    break
            both.some_deeds(rng, 12)
            outcomes[both.real.outcome] = outcomes.get(both.real.outcome, 0) + 1
        self.assertLessEqual({"begin", "mark", "rescan", "marked", "move", "skip", "moved", "update", "done"}, set(told))
        self.assertLessEqual({None, "nil", "full", "zero"}, set(outcomes))
        self.assertGreater(steps, 10000)

    def test_long_runs(self):
        for seed in (3, 11, 20, 47):
            both = Both(random_run(seed), [2], capacity=250, nursery=40, pace=1)
            both.run(seed, 1500, 1)
            check_memory(both.real.heap, both.real.root_rows())


if __name__ == "__main__":
    unittest.main()
