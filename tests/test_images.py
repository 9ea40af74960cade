"""Points 72 and 73: pictures as text."""

import random
import unittest

from quietbroom.errors import BadImage, QuietError
from quietbroom.images import read_image, write_image
from quietbroom.pictures import Picture
from tests.graphs_of import random_picture

LOW, HIGH = -2147483648, 2147483647
SIXTEEN = "abcdefghijklm012"

# A whole image, line by line.
LINES = ["static 3", "static nil", "frame main 2", "slots nil @0", "stack", "frame work 199", "slots", "stack 5 -7 @1",
         "watched @0", "parted", "object box -1", "object none", "object row @99999 nil 0"]
PICTURE = Picture([7, 0], [("main", 2, [0, 2], []), ("work", 199, [], [11, -13, 4])], [2], [],
                  [("box", [-1]), ("none", []), ("row", [200000, 0, 1])])


def text_of(lines):
    """The text of these lines."""
    return "".join(line + "\n" for line in lines)


class WriteTest(unittest.TestCase):

    def test_each_kind_of_line(self):
        self.assertEqual(write_image(PICTURE), text_of(LINES))
        self.assertEqual(write_image(picture=PICTURE), text_of(LINES))

    def test_nothing(self):
        self.assertEqual(write_image(Picture([], [], [], [], [])), "watched\nparted\n")

    def test_lines_without_words(self):
        picture = Picture([], [("a", 0, [], [])], [], [], [("b", [])])
        self.assertEqual(write_image(picture), "frame a 0\nslots\nstack\nwatched\nparted\nobject b\n")

    def test_words(self):
        for word, shown in ((0, "nil"), (1, "0"), (3, "1"), (-1, "-1"), (-3, "-2"), (2 * HIGH + 1, str(HIGH)), (2 * LOW + 1, str(LOW)),
                            (2, "@0"), (4, "@1"), (20, "@9"), (22, "@10"), (200000, "@99999")):
            self.assertEqual(write_image(Picture([word], [], [], [], [])), f"static {shown}\nwatched\nparted\n")
            self.assertEqual(write_image(Picture([], [], [word, word], [0, word], [])),
                             f"watched {shown} {shown}\nparted nil {shown}\n")
            self.assertEqual(write_image(Picture([], [("f", 7, [word], [1, word])], [], [], [("o", [word, 0])])),
                             f"frame f 7\nslots {shown}\nstack 0 {shown}\nwatched\nparted\nobject o {shown} nil\n")

    def test_references_to_objects_that_are_not_there(self):
        self.assertEqual(write_image(Picture([2], [], [10], [], [])), "static @0\nwatched @4\nparted\n")

    def test_many_statics_frames_and_objects(self):
        picture = Picture([1] * 50, [("f", n, [], []) for n in range(60)], [], [], [("o", [1] * 1000)] * 3)
        lines = write_image(picture).split("\n")
        self.assertEqual((len(lines), lines[:50], lines[-2]), (50 + 180 + 2 + 3 + 1, ["static 0"] * 50, "object o" + " 0" * 1000))
        self.assertEqual(read_image(write_image(picture)), picture)


class ReadTest(unittest.TestCase):

    def read(self, lines, picture):
        self.assertEqual(read_image(text_of(lines)), picture)

    def test_a_whole_image(self):
        self.read(LINES, PICTURE)
        self.assertEqual(read_image(text=text_of(LINES)), PICTURE)
        found = read_image(text_of(LINES))
        self.assertIs(type(found), Picture)
        self.assertEqual((found.statics, found.frames, found.watched, found.parted, found.objects), (
            PICTURE.statics, PICTURE.frames, PICTURE.watched, PICTURE.parted, PICTURE.objects))

    def test_the_shortest_one(self):
        self.read(["watched", "parted"], Picture([], [], [], [], []))

    def test_bounds(self):
        self.read([f"static {LOW}", f"static {HIGH}", "static 0", "static @0", "static @99999", "static nil", "watched", "parted"],
                  Picture([2 * LOW + 1, 2 * HIGH + 1, 1, 2, 200000, 0], [], [], [], []))
        self.read(["frame a 0", "slots", "stack", f"frame {SIXTEEN} 199", "slots", "stack", "watched", "parted", f"object {SIXTEEN}"],
                  Picture([], [("a", 0, [], []), (SIXTEEN, 199, [], [])], [], [], [(SIXTEEN, [])]))

    def test_names_like_first_words(self):
        self.read(["frame frame 1", "slots", "stack", "watched", "parted", "object nil nil", "object object 1"],
                  Picture([], [("frame", 1, [], [])], [], [], [("nil", [0]), ("object", [3])]))

    def test_what_is_written_comes_back(self):
        for seed in range(300):
            rng = random.Random(seed)
            word = lambda: rng.choice((0, 1, -1, 2 * rng.randrange(LOW, HIGH + 1) + 1, 2 * rng.randrange(1, 100001), 2))
            words = lambda: [word() for _ in range(rng.randrange(4))]
            frames = [(rng.choice(("main", "a", SIXTEEN)), rng.randrange(200), words(), words()) for _ in range(rng.randrange(4))]
            objects = [(rng.choice(("box", "z9")), words()) for _ in range(rng.randrange(5))]
            picture = Picture(words(), frames, words(), words(), objects)
            text = write_image(picture)
            self.assertEqual(read_image(text), picture)
            self.assertEqual(write_image(read_image(text)), text)
        for seed in range(50):
            picture = random_picture(seed)
            self.assertEqual(read_image(write_image(picture)), picture)


class BadImageTest(unittest.TestCase):

    def bad(self, text, line, why):
        with self.assertRaises(BadImage) as caught:
            read_image(text)
        self.assertEqual((caught.exception.line, caught.exception.why), (line, why), text)
        self.assertIsInstance(caught.exception, QuietError)

    def bad_line(self, number, line):
        """A whole image with another line in its place is wrong there."""
        lines = list(LINES)
        lines[number - 1] = line
        self.bad(text_of(lines), number, "line")
        # What stands behind it makes no difference.
        self.bad(text_of(lines[:number]), number, "line")
        self.bad(text_of(lines[:number] + ["?", ""]) + "x", number, "line")

    def test_the_end_after_so_many_lines(self):
        for count in range(len(LINES)):
            text = text_of(LINES[:count])
            if count < 10:
                self.bad(text, count + 1, "end")
            else:
                read_image(text)
        self.bad("", 1, "end")
        self.bad("watched\n", 2, "end")

    def test_the_end_within_a_line(self):
        whole = text_of(LINES)
        for cut in range(len(whole)):
            part = whole[:cut]
            if part.endswith("\n") and part.count("\n") >= 10:
                read_image(part)
            else:
                self.bad(part, part.count("\n") + 1, "end")

    def test_whatever_stands_in_an_unended_line(self):
        for rest in ("x", " ", "object", "object box 01", "static 3", "parted", "?" * 100):
            self.bad(text_of(LINES) + rest, len(LINES) + 1, "end")
            self.bad(rest, 1, "end")
            self.bad("static 1\n" + rest, 2, "end")

    def test_lines_that_stand_elsewhere(self):
        heads = {"static": "static 3", "frame": "frame main 2", "slots": "slots", "stack": "stack", "watched": "watched",
                 "parted": "parted", "object": "object box"}
        follow = {"": ("static", "frame", "watched"), "static": ("static", "frame", "watched"), "frame": ("slots",), "slots": ("stack",),
                  "stack": ("frame", "watched"), "watched": ("parted",), "parted": ("object",), "object": ("object",)}
        ways = {"": [], "static": ["static 3"], "frame": ["frame main 2"], "slots": ["frame main 2", "slots"],
                "stack": ["frame main 2", "slots", "stack"], "watched": ["watched"], "parted": ["watched", "parted"],
                "object": ["watched", "parted", "object box"]}
        for last, before in ways.items():
            for head, line in heads.items():
                text = text_of(before + [line])
                if head not in follow[last]:
                    self.bad(text, len(before) + 1, "line")
                elif head in ("parted", "object"):
                    read_image(text)
                else:
                    self.bad(text, len(before) + 2, "end")

    def test_other_first_words(self):
        for line in ("", " ", "statics 3", "Static 3", "STATIC 3", "stat", "# watched", "static3", "object_ box", "-", "nil", "3", "@0", "\tstatic 3"):
            for number in range(1, len(LINES) + 1):
                self.bad_line(number, line)

    def test_empty_lines(self):
        for number in range(len(LINES) + 1):
            lines = LINES[:number] + [""] + LINES[number:]
            self.bad(text_of(lines), number + 1, "line")

    def test_blanks(self):
        for number, line in enumerate(LINES, start=1):
            self.bad_line(number, " " + line)
            self.bad_line(number, line + " ")
            if " " in line:
                self.bad_line(number, line.replace(" ", "  ", 1))
                self.bad_line(number, line.replace(" ", "\t", 1))

    def test_words_of_memory(self):
        wrong = ("00", "01", "-0", "-00", "-01", "+1", "--1", "-", "1.0", "1e3", "0x1", "1_000", "2147483648", "-2147483649", "9" * 10,
                 "9" * 11, "1" * 5000, "-" + "1" * 5000, "0" * 5000, "1" + "0" * 5000, "@", "@-1", "@-0", "@00", "@01", "@007", "@+1", "@100000",
                 "@" + "9" * 10, "@" + "1" * 5000, "@@1", "@ 1", "@1a", "@nil", "1@", "Nil", "NIL", "nill", "ni", "a", "num", "?", "0,", "@1.", ":")
        for number, ahead in ((1, "static"), (4, "slots"), (4, "slots nil"), (5, "stack"), (5, "stack 1 2"), (9, "watched"), (10, "parted"),
                              (11, "object box"), (13, "object row nil")):
            for word in wrong:
                self.bad_line(number, f"{ahead} {word}")
                if number != 1:
                    self.bad_line(number, f"{ahead} {word} 3")

    def test_numbers_of_words(self):
        for line in ("static", "static 1 2", "static nil nil", "static 1 x"):
            self.bad_line(1, line)
        for line in ("frame", "frame main", "frame main 2 3", "frame 2", "frame main 2 nil"):
            self.bad_line(3, line)
        for line in ("object", "object 3", "object nil3@"):
            self.bad_line(11, line)

    def test_names(self):
        for name in ("num", "mixed", "unset", "", "A", "aB", "1a", "a_b", "a-b", "@a", "a.", SIXTEEN + "3", "a" * 17, "a" * 5000):
            self.bad_line(3, f"frame {name} 2")
            self.bad_line(11, f"object {name} 2")
            self.bad_line(11, f"object {name}")

    def test_places(self):
        for place in ("200", "1000", "-1", "-0", "00", "01", "0199", "1" * 5000, "nil", "@0", "", "x", "2.", "+2"):
            self.bad_line(3, f"frame main {place}")

    def test_the_first_line_that_is_wrong_is_told(self):
        self.bad("static 01\nstatic 02\n", 1, "line")
        self.bad("static 1\nstatic 02\nstatic 03\n", 2, "line")
        self.bad("static 1\nparted\nwatched", 2, "line")

    def test_references_are_not_looked_up(self):
        self.assertEqual(read_image("static @7\nwatched @0\nparted nil 3\nobject box @9\n"),
                         Picture([16], [], [2], [0, 7], [("box", [20])]))

    def test_examples(self):
        picture = Picture([7], [("main", 2, [0, 2], [])], [2], [], [("box", [-1])])
        text = write_image(picture)
        self.assertEqual((text, read_image(text) == picture), (
            "static 3\nframe main 2\nslots nil @0\nstack\nwatched @0\nparted\nobject box -1\n", True))
        self.bad("watched\nparted\nobject box 01\n", 3, "line")
        self.bad("static 3\nframe main 2\nslots nil @0\n", 4, "end")


if __name__ == "__main__":
    unittest.main()
