"""The interface: each name is there, in its file, with its arguments."""

import importlib
import inspect
import unittest

FUNCTIONS = {
    "faces": {"is_sign": "thing", "need_face": "face", "wide": "face line"},
    "settings": {"need_rules": "rules"},
    "joints": {"need_book": "book", "fits": "joint word place", "telling": "book word place"},
    "parting": {"is_word": "thing", "places": "book rules word", "parted": "book rules word"},
    "blocks": {"is_block": "thing", "need_blocks": "blocks"},
    "reading": {"read": "text"},
    "writing": {"written": "blocks"},
    "pieces": {"lay_of": "face rules", "pieces_of": "face book rules pairs"},
    "lines": {
        "natural": "pieces lay begin end", "cost": "pieces lay begin end", "need_breaks": "pieces lay breaks",
        "total": "pieces lay breaks",
    },
    "breaking": {"prices": "pieces lay", "broken": "pieces lay"},
    "spreading": {"spread": "pieces lay begin end"},
    "cells": {"filled_rows": "face words width", "least_width": "face cells rows"},
    "columns": {"columns": "face rules table", "set_row": "face row widths"},
    "marks": {"noted": "blocks"},
    "rowing": {"rows_of": "face book rules block pairs", "note_rows": "face book rules number note"},
    "galley": {"strips_of": "rules kinds rows"},
    "leaves": {
        "may_end": "strips begin end", "height_of": "strips heights begin end ahead late",
        "leaf_cost": "strips heights rules begin end ahead late",
    },
    "filling": {"leaf_prices": "strips heights rules", "filled": "strips heights rules"},
    "placing": {"placed": "rules strips rows notes leaves"},
}
CLASSES = {
    "book": ("Book", "text face book rules", {"pages": "", "heads": "", "note": "number", "costs": ""}),
    "desk": ("Desk", "face book rules", {
        "put": "at block", "take": "at", "change": "at block", "blocks": "", "text": "", "pages": "", "fresh": "",
    }),
}


def arguments(thing):
    return list(inspect.signature(thing).parameters)


class InterfaceTest(unittest.TestCase):
    def test_functions(self):
        for file, functions in FUNCTIONS.items():
            module = importlib.import_module("quirehand." + file)
            for name, names in functions.items():
                with self.subTest(file=file, name=name):
                    self.assertEqual(arguments(getattr(module, name)), names.split())

    def test_classes(self):
        for file, (name, names, methods) in CLASSES.items():
            kind = getattr(importlib.import_module("quirehand." + file), name)
            self.assertEqual(arguments(kind), names.split())
            for method, its_names in methods.items():
                with self.subTest(name=name, method=method):
                    self.assertEqual(arguments(getattr(kind, method)), ["self"] + its_names.split())


if __name__ == "__main__":
    unittest.main()
