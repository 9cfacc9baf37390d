"""The interface: its names, their arguments, the files that define them, and the size of these files."""

import ast
import os
import unittest

PACKAGE = os.path.join(os.path.dirname(os.path.dirname(os.path.abspath(__file__))), "holestore")

FUNCTIONS = {
    "webs": {"parting": ["yard"], "two_sided": ["yard"], "pieces": ["yard"], "kind": ["yard", "place", "other"]},
    "yards": {"slides": ["yard", "standing"], "behind_slide": ["yard", "standing", "slide"],
              "slides_to": ["yard", "standing", "other"], "count_standings": ["yard", "standing"]},
    "rooms": {"room": ["yard", "standing", "book"], "rooms": ["yard", "standing"], "never": ["yard", "standing"],
              "bar": ["yard", "standing", "book"], "shows_bar": ["yard", "standing", "book", "value"],
              "is_free": ["yard"]},
    "orders": {"orders": ["yard"], "all_standings": ["yard", "standing"], "sign": ["yard", "standing"]},
    "runs": {"run_still": ["books", "program", "inputs", "most"],
             "run_yard": ["yard", "standing", "program", "inputs", "most"]},
    "walks": {"fault": ["yard", "standing", "program", "kept"], "carries": ["yard", "standing", "program", "kept"]},
    "writing": {"barred": ["yard", "standing", "program"], "can_be_kept": ["yard", "standing", "program"],
                "kept": ["yard", "standing", "program"]},
    "universals": {"keeps_all": ["yard"], "hardest": ["books"]},
    "shares": {"share": ["yard", "standing", "program"], "kept_best": ["yard", "standing", "program"]},
    "papers": {"share_paper": ["yard", "standing", "program"],
               "shows_share": ["yard", "standing", "program", "value"]},
    "requests": {"fewest_slides": ["yard", "standing", "asks"], "nearest_slides": ["yard", "standing", "asks"],
                 "farthest_ask": ["yard", "standing"]},
    "gates": {"free_gates": ["yard"], "gates_for": ["yard", "standing", "program"],
              "best_gate": ["yard", "standing", "program"], "freeing": ["yard"], "needed_ties": ["yard"]},
    "holes": {"count_classes": ["yard", "books"], "most_books": ["yard"]},
    "yardtexts": {"write_yard": ["yard"], "read_yard": ["text"], "write_standing": ["yard", "standing"],
                  "read_standing": ["yard", "text"], "write_program": ["books", "program"],
                  "read_program": ["books", "text"]},
    "sessions": {"read_session": ["text"], "first_unlike": ["text"]},
}

CLASSES = {
    "errors": ["StoreError", "BadYard", "BadProgram", "BadLine", "TooMany", "BadStanding", "BadInputs", "BadNumber",
               "BadPlace", "BadBook", "BadSlide", "NoWay", "BadString"],
    "benches": ["Store"],
    "desks": ["Desk"],
    "sessions": ["Session"],
}

METHODS = {
    "Store": {"__init__": ["yard", "standing"], "slide": ["one", "other"], "read": [], "write": ["value"],
              "bring": ["book"], "tick": [], "standing": [], "held": [], "ways": []},
    "Desk": {"__init__": [], "take_yard": ["text", "line"], "take_program": ["text"], "say": ["line"]},
    "Session": {"__init__": ["text", "line"], "say": ["line"], "text": [], "log": []},
}

PROPERTIES = {"Store": ["tick", "standing", "held", "ways"], "Desk": [], "Session": ["log"]}


def text_of(name):
    with open(os.path.join(PACKAGE, name), encoding="utf-8") as file:
        return file.read()


def defined(name, sort):
    return {node.name: node for node in ast.parse(text_of(name)).body if isinstance(node, sort)}


class Interface(unittest.TestCase):

    def test_functions_stand_in_their_files(self):
        for module, functions in FUNCTIONS.items():
            found = defined(module + ".py", ast.FunctionDef)
            for name, arguments in functions.items():
                with self.subTest(module=module, name=name):
                    self.assertEqual([each.arg for each in found[name].args.args], arguments)

    def test_classes_stand_in_their_files(self):
        for module, names in CLASSES.items():
            found = defined(module + ".py", ast.ClassDef)
            self.assertEqual(sorted(found), sorted(names))

    def test_methods_stand_in_their_classes(self):
        for module in ("benches", "desks", "sessions"):
            for name, node in defined(module + ".py", ast.ClassDef).items():
                found = {each.name: each for each in node.body if isinstance(each, ast.FunctionDef)}
                for method, arguments in METHODS[name].items():
                    with self.subTest(name=name, method=method):
                        self.assertEqual([each.arg for each in found[method].args.args], ["self"] + arguments)
                self.assertEqual([each for each in found if found[each].decorator_list], PROPERTIES[name])


class Sizes(unittest.TestCase):

    def test_files_and_functions_are_small_and_plain(self):
        for name in sorted(os.listdir(PACKAGE)):
            if not name.endswith(".py"):
                continue
            with self.subTest(name=name):
                text = text_of(name)
                rows = text.split("\n")
                self.assertTrue(all(character == "\n" or " " <= character <= "~" for character in text))
                self.assertLess(len(rows), 400)
                self.assertLessEqual(max(len(row) for row in rows), 120)
                for node in ast.walk(ast.parse(text)):
                    if isinstance(node, ast.FunctionDef):
                        self.assertLessEqual(node.end_lineno - node.lineno + 1, 40)


if __name__ == "__main__":
    unittest.main()
