"""The interface: each name in its own file, with its arguments in their order."""

import importlib
import inspect
import pathlib
import unittest

import quietbroom

FUNCTIONS = {
    "words": {
        "wrap": "n", "number_word": "n", "reference_word": "address", "is_number": "word", "is_reference": "word",
        "number_of": "word", "address_of": "word",
    },
    "shapes": {"is_name": "text", "size_of": "length"},
    "programs": {"make_program": "shapes statics functions"},
    "assembler": {"assemble": "text"},
    "listing": {"listing": "program"},
    "octets": {"encode_number": "n", "decode_number": "octets at"},
    "packing": {"pack": "program"},
    "unpacking": {"unpack": "octets"},
    "flow": {"successors": "function place", "runs_off": "function place"},
    "kinds": {
        "entry_state": "function", "kinds_after": "program function place state", "merged": "one two", "fits": "one two",
    },
    "checker": {"refusal": "program", "check": "program", "kind_tables": "program"},
    "judges": {"is_table": "program number table", "is_refusal": "program refusal"},
    "graphs": {
        "held_order": "rows objects", "held_words": "rows objects", "strong_set": "program rows objects",
        "program_settling": "program rows watched parted objects",
    },
    "pictures": {"picture_of": "statics frames watched parted objects"},
    "headers": {
        "form_word": "shape_number length", "state_word": "colour remembered forward", "shape_number_of": "word",
        "length_of": "word", "colour_of": "word", "remembered_of": "word", "forward_of": "word",
    },
    "heaps": {"blocks": "heap low high", "snapshot": "heap"},
    "barriers": {
        "resolve": "heap address", "resolve_word": "heap word", "read_word": "heap address place",
        "write_word": "heap address place word",
    },
    "young": {"collect_young": "heap rows"},
    "placing": {"place_block": "heap rows shape_number payload"},
    "cycle": {"collect": "heap rows", "finish": "heap rows", "collect_all": "heap rows"},
    "settling": {"heap_settling": "heap program rows watched parted"},
    "running": {"run": "machine schedule fuel", "room_for_pace": "held largest pace"},
    "images": {"write_image": "picture", "read_image": "text"},
    "fitting": {"picture_fault": "program picture"},
    "resuming": {"resume": "program picture capacity nursery pace", "resume_plain": "program picture limit"},
    "ways": {"follow": "picture way", "way_to": "picture number", "referrers": "picture number"},
    "keepers": {"keepers": "picture", "two_ways": "picture number", "kept_words": "picture number"},
    "accounts": {"account": "program picture", "loose": "program picture", "settled_picture": "program picture"},
}
# What is passed by name alone, with the default values of all that has one.
BY_NAME = {
    ("plain", "PlainMachine"): ({"limit"}, {"arguments": (), "limit": None}),
    ("machine", "Machine"): ({"capacity", "nursery", "pace"}, {"arguments": (), "nursery": 0, "pace": 0}),
    ("running", "run"): ({"fuel"}, {"schedule": ()}),
    ("resuming", "resume"): ({"capacity", "nursery", "pace"}, {"nursery": 0, "pace": 0}),
    ("resuming", "resume_plain"): ({"limit"}, {"limit": None}),
}
METHODS = {
    ("shapes", "Shape"): {"__init__": "self name form fields", "kind_of": "self place", "blank": "self length"},
    ("programs", "Program"): {
        "data": "self", "shape": "self name", "function": "self name", "shape_number": "self name",
        "static_number": "self name", "function_number": "self name",
    },
    ("programs", "Function"): {},
    ("pictures", "Picture"): {
        "__init__": "self statics frames watched parted objects", "rows": "self", "__eq__": "self other",
    },
    ("plain", "PlainMachine"): {
        "__init__": "self program arguments limit", "advance": "self", "picture": "self", "held_words": "self",
        "birth_numbers": "self",
    },
    ("heaps", "Heap"): {"__init__": "self capacity nursery", "used": "self"},
    ("machine", "Machine"): {
        "__init__": "self program arguments capacity nursery pace", "advance": "self", "picture": "self", "held_words": "self",
        "root_rows": "self", "addresses": "self", "collect": "self", "collect_young": "self", "finish": "self",
        "collect_all": "self", "waste": "self",
    },
}


class InterfaceTest(unittest.TestCase):

    def test_functions(self):
        for module, functions in FUNCTIONS.items():
            for name, arguments in functions.items():
                function = getattr(importlib.import_module("quietbroom." + module), name)
                self.assertEqual(function.__module__, "quietbroom." + module, name)
                parameters = inspect.signature(function).parameters
                self.assertEqual(list(parameters), arguments.split(), name)
                if (module, name) not in BY_NAME:
                    for parameter in parameters.values():
                        self.assertEqual(parameter.kind, inspect.Parameter.POSITIONAL_OR_KEYWORD, name)

    def test_methods(self):
        for (module, name), methods in METHODS.items():
            some = getattr(importlib.import_module("quietbroom." + module), name)
            self.assertEqual(some.__module__, "quietbroom." + module, name)
            for method, arguments in methods.items():
                self.assertIn(method, vars(some), name)
                self.assertEqual(list(inspect.signature(vars(some)[method]).parameters), arguments.split(), method)

    def test_what_is_passed_by_name_alone(self):
        for (module, name), (alone, defaults) in BY_NAME.items():
            some = getattr(importlib.import_module("quietbroom." + module), name)
            parameters = inspect.signature(some).parameters
            for parameter in parameters.values():
                kind = "KEYWORD_ONLY" if parameter.name in alone else "POSITIONAL_OR_KEYWORD"
                self.assertEqual(parameter.kind.name, kind, (name, parameter.name))
            found = {word: one.default for word, one in parameters.items() if one.default is not inspect.Parameter.empty}
            self.assertEqual(found, defaults, name)

    def test_init_file_is_empty_but_for_a_docstring(self):
        folder = pathlib.Path(quietbroom.__file__).parent
        text = (folder / "__init__.py").read_text().strip()
        self.assertTrue(text.startswith('"""') and text.endswith('"""') and text.count('"""') == 2)


if __name__ == "__main__":
    unittest.main()
