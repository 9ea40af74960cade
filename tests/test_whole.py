"""The whole program: the document's examples, and runs that are packed, collected, shown, asked about and resumed."""

import pathlib
import random
import re
import unittest

from quietbroom.accounts import account, loose, settled_picture
from quietbroom.assembler import assemble
from quietbroom.barriers import read_word, resolve
from quietbroom.fitting import picture_fault
from quietbroom.graphs import held_order, held_words, strong_set
from quietbroom.images import read_image, write_image
from quietbroom.keepers import keepers, kept_words, two_ways
from quietbroom.listing import listing
from quietbroom.machine import Machine
from quietbroom.packing import pack
from quietbroom.plain import PlainMachine
from quietbroom.resuming import resume, resume_plain
from quietbroom.running import run
from quietbroom.unpacking import unpack
from quietbroom.ways import follow, referrers, way_to
from tests.alike import DEEDS, Both
from tests.graphs_of import expected_keepers, kept_by
from tests.rules import check_memory
from tests.runs import random_run
from tests.test_alike import LISTS

DOCUMENT = pathlib.Path(__file__).parent.parent.parent / "shared" / "DOC.md"


def told_error(error):
    """An error as the document's examples tell it."""
    fields = ", ".join(repr(worth) for worth in vars(error).values())
    return f"raises {type(error).__name__}({fields})"


class ExamplesTest(unittest.TestCase):

    @unittest.skipUnless(DOCUMENT.exists(), "the document is not there")
    def test_the_examples_of_the_document(self):
        text = DOCUMENT.read_text().partition("# Examples")[2].partition("# The interface")[0]
        examples = re.findall(r"```\n(.*?)\n```", text, re.DOTALL)
        self.assertGreater(len(examples), 50)
        for example in examples:
            rows = example.split("\n")
            statements = [row[4:] for row in rows if row.startswith(">>> ")]
            names = {}
            try:
                for statement in statements[:-1]:
                    exec(statement, names)
                told = repr(eval(statements[-1], names))
            except ValueError as error:
                told = told_error(error)
            self.assertEqual(told, rows[-1], example)


def random_moments(seed, count):
    """A real machine at several moments of a run with many calls of the collector."""
    rng = random.Random(seed)
    program = LISTS if seed % 6 == 0 else random_run(seed)
    capacity = rng.choice((20, 40, 90, 200))
    machine = Machine(program, [seed % 3 + 1], capacity=capacity, nursery=rng.choice((0, 6, capacity)), pace=rng.randrange(3))
    for _ in range(count):
        yield machine
        for _ in range(rng.randrange(40)):
            for _ in range(rng.randrange(3)):
                getattr(machine, rng.choice(DEEDS))()
            machine.advance()


class MomentsTest(unittest.TestCase):
    """What can be asked of the picture of a machine at any moment."""

    def test_pictures_fit_and_come_back(self):
        for seed in range(100):
            for machine in random_moments(seed, 6):
                picture, program, capacity = machine.picture(), machine.program, machine.heap.capacity
                self.assertIsNone(picture_fault(program, picture))
                self.assertEqual(read_image(write_image(picture)), picture)
                for other in (resume(program, picture, capacity=capacity), resume_plain(program, picture, limit=capacity)):
                    self.assertEqual((other.picture(), other.held_words()), (picture, machine.held_words()))
                self.assertEqual(held_order(picture.rows(), picture.objects), tuple(range(len(picture.objects))))
                self.assertEqual(held_words(picture.rows(), picture.objects), machine.held_words())

    def test_ways_lead_to_the_blocks(self):
        for seed in range(60):
            for machine in random_moments(seed, 4):
                picture, addresses, rows = machine.picture(), machine.addresses(), machine.root_rows()
                for number, address in enumerate(addresses):
                    row, position, steps = way_to(picture, number)
                    at = resolve(machine.heap, rows[row][position] // 2)
                    for place in steps:
                        at = read_word(machine.heap, at, place) // 2
                    self.assertEqual(at, address)
                    self.assertEqual(follow(picture, (row, position, steps))[-1], number)
                    self.assertGreaterEqual(len(referrers(picture, number)), 1)

    def test_keepers_and_what_they_keep(self):
        for seed in range(60):
            for machine in random_moments(seed, 4):
                picture = machine.picture()
                if len(picture.objects) <= 40:
                    self.assertEqual(keepers(picture), expected_keepers(picture))
                    for number in range(len(picture.objects)):
                        wanted = sum(len(picture.objects[other][1]) + 2 for other in kept_by(picture, number) | {number})
                        self.assertEqual(kept_words(picture, number), wanted)
                        self.assertEqual(len(two_ways(picture, number)), 2)

    def test_accounts(self):
        for seed in range(60):
            for machine in random_moments(seed, 4):
                picture, program = machine.picture(), machine.program
                self.assertEqual(sum(words for _, _, words in account(program, picture)), machine.held_words())
                strong = strong_set(program, (*picture.rows()[:-2], picture.parted), picture.objects)
                self.assertEqual(sorted(strong + loose(program, picture)), list(range(len(picture.objects))))
                settled = settled_picture(program, picture)
                self.assertIsNone(picture_fault(program, settled))
                self.assertEqual(loose(program, settled), ())

    def test_asking_changes_nothing(self):
        for machine in random_moments(6, 5):
            picture, kept = machine.picture(), machine.picture()
            for number in range(len(picture.objects)):
                way_to(picture, number), referrers(picture, number), two_ways(picture, number), kept_words(picture, number)
            keepers(picture), account(machine.program, picture), loose(machine.program, picture), settled_picture(machine.program, picture)
            write_image(picture), picture_fault(machine.program, picture), resume_plain(machine.program, picture)
            self.assertEqual(picture, kept)
            self.assertEqual(machine.picture(), kept)


class WholeTest(unittest.TestCase):

    def test_a_program_by_text_and_by_octets_runs_the_same(self):
        for seed in range(25):
            program = random_run(seed)
            told = set()
            for other in (program, assemble(listing(program)), unpack(pack(program)), unpack(list(pack(assemble(listing(program)))))):
                self.assertEqual(other.data(), program.data())
                machine = Machine(other, [2], capacity=60, nursery=12)
                outcome = run(machine, [seed, 4, 1], fuel=200)
                told.add((outcome, machine.told, machine.steps, write_image(machine.picture())))
            self.assertEqual(len(told), 1)

    def test_a_run_that_is_stopped_again_and_again(self):
        """Each part of the run goes on from the image of the one before, now in this machine and now in that."""
        for seed in range(40):
            rng = random.Random(seed)
            program = LISTS if seed % 4 == 0 else random_run(seed)
            capacity = rng.choice((30, 45, 80, 200))
            whole = PlainMachine(program, [2], limit=capacity)
            wanted = run(whole, fuel=400)
            told, steps, settlings, forms = (), 0, 0, 0
            machine = Machine(program, [2], capacity=capacity, nursery=rng.randrange(capacity))
            # A trap takes one more call than there are steps.
            last = whole.steps + (wanted != "paused")
            while machine.outcome is None and steps < last:
                run(machine, [rng.randrange(30)], fuel=min(rng.randrange(1, 30), last - steps))
                told, steps, settlings = told + machine.told, steps + machine.steps, settlings + machine.settlings
                if machine.outcome is not None:
                    break
                picture = read_image(write_image(machine.picture()))
                forms += 1
                if forms % 3 == 0:
                    machine = resume_plain(program, picture, limit=capacity)
                else:
                    machine = resume(program, picture, capacity=capacity, nursery=rng.randrange(capacity), pace=rng.randrange(3))
                    check_memory(machine.heap, machine.root_rows())
            self.assertEqual((told, steps, machine.picture()), (whole.told, whole.steps, whole.picture()))
            self.assertEqual((machine.outcome or "paused", settlings), (wanted, whole.settlings))

    def test_a_large_memory(self):
        both = Both(LISTS, [150], capacity=4000, nursery=500, pace=0)
        for count in range(2500):
            both.real.advance()
            both.plain.advance()
            if count % 5 == 0:
                both.real.collect()
            if count % 250 == 0:
                both.compare()
        picture = both.real.picture()
        self.assertEqual(keepers(picture)[:3], (None, None, None))
        self.assertIsNone(picture_fault(LISTS, picture))
        self.assertEqual(resume(LISTS, picture, capacity=4000).picture(), picture)


if __name__ == "__main__":
    unittest.main()
