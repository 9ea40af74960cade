"""The interface: each name in its own file, with its arguments in their order."""

import importlib
import inspect
import pathlib
import unittest

import quietbroom

FUNCTIONS = {
    "words": {
        "wrap": "n", "number_word": "n", "reference_word": "address", "is_number": "word", "is_reference": "word",
        "number_of": "word", "address_of": "word",
    },
    "shapes": {"is_name": "text", "size_of": "length"},
    "programs": {"make_program": "shapes statics functions"},
    "assembler": {"assemble": "text"},
    "listing": {"listing": "program"},
    "octets": {"encode_number": "n", "decode_number": "octets at"},
    "packing": {"pack": "program"},
    "unpacking": {"unpack": "octets"},
}
METHODS = {
    ("shapes", "Shape"): {"__init__": "self name form fields", "kind_of": "self place", "blank": "self length"},
    ("programs", "Program"): {
        "data": "self", "shape": "self name", "function": "self name", "shape_number": "self name",
        "static_number": "self name", "function_number": "self name",
    },
    ("programs", "Function"): {},
}


class InterfaceTest(unittest.TestCase):

    def test_functions(self):
        for module, functions in FUNCTIONS.items():
            for name, arguments in functions.items():
                function = getattr(importlib.import_module("quietbroom." + module), name)
                self.assertEqual(function.__module__, "quietbroom." + module, name)
                parameters = inspect.signature(function).parameters
                self.assertEqual(list(parameters), arguments.split(), name)
                for parameter in parameters.values():
                    self.assertEqual(parameter.kind, inspect.Parameter.POSITIONAL_OR_KEYWORD, name)

    def test_methods(self):
        for (module, name), methods in METHODS.items():
            some = getattr(importlib.import_module("quietbroom." + module), name)
            self.assertEqual(some.__module__, "quietbroom." + module, name)
            for method, arguments in methods.items():
                self.assertIn(method, vars(some), name)
                self.assertEqual(list(inspect.signature(vars(some)[method]).parameters), arguments.split(), method)

    def test_init_file_is_empty_but_for_a_docstring(self):
        folder = pathlib.Path(quietbroom.__file__).parent
        text = (folder / "__init__.py").read_text().strip()
        self.assertTrue(text.startswith('"""') and text.endswith('"""') and text.count('"""') == 2)


if __name__ == "__main__":
    unittest.main()
