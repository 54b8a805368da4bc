"""[1] nothing hangs on a clock, chance or files; the interface's names, arguments and kinds."""

import ast
import inspect
import pathlib
import subprocess
import sys
import unittest

from joinedfolk import chains, names, roofs, rules, texts, times

ROOT = pathlib.Path(__file__).resolve().parent.parent


def shape(function):
    """The names of a function's arguments by place, and of those by name with their defaults."""
    found = inspect.getfullargspec(function)
    return [each for each in found.args if each != "self"], found.kwonlydefaults


class PackageTest(unittest.TestCase):
    def test_nothing_but_its_own_is_drawn_in(self):
        files = sorted((ROOT / "joinedfolk").glob("*.py"))
        self.assertTrue(files)
        for file in files:
            for node in ast.walk(ast.parse(file.read_text())):
                self.assertNotIsInstance(node, ast.Import, file)
                if isinstance(node, ast.ImportFrom):
                    self.assertTrue(node.module.startswith("joinedfolk."), file)
                if isinstance(node, ast.Name):
                    self.assertNotIn(node.id, ("open", "input", "print", "id", "hash"), file)

    def test_init_binds_nothing(self):
        asks = "import joinedfolk; print([each for each in vars(joinedfolk) if not each.startswith('__')])"
        answer = subprocess.run([sys.executable, "-c", asks], cwd=ROOT, capture_output=True, text=True, check=True)
        self.assertEqual(answer.stdout.strip(), "[]")

    def test_functions_of_names(self):
        for word, takes in (("is_word", "thing"), ("is_name", "thing"), ("name_text", "name"), ("read_name", "text")):
            self.assertEqual(shape(getattr(names, word)), ([takes], None))

    def test_functions_of_the_later_stages(self):
        takes = {
            chains: {
                "is_in": ["roof", "who", "group"], "chain": ["roof", "who", "group"], "groups_of": ["roof", "who"],
                "all_in": ["roof", "group"], "shows_in": ["roof", "who", "group", "thing"],
                "outside": ["roof", "who", "group"], "shows_out": ["roof", "who", "group", "thing"],
            },
            rules: {
                "may": ["roof", "rules", "who", "thing"], "reason": ["roof", "rules", "who", "thing"],
                "needless": ["roof", "rules"], "parted": ["roof", "rules", "other"],
            },
            times: {
                "journal": ["roof"], "played": ["rows"], "as_of": ["roof", "time"], "changed": ["roof", "early", "late"],
                "since": ["roof", "who", "group"], "blamed": ["roof", "who", "group"],
            },
            texts: {"journal_text": ["rows"], "read_journal": ["text"]},
        }
        for module, functions in takes.items():
            for word in functions:
                self.assertEqual(shape(getattr(module, word)), (functions[word], None), word)

    def test_size_and_signs_of_the_files(self):
        for file in sorted((ROOT / "joinedfolk").iterdir()):
            if file.name == "__pycache__":
                continue
            lines = file.read_text().split("\n")
            self.assertLessEqual(len(lines), 400, file)
            for line in lines:
                self.assertLessEqual(len(line), 120, file)
                self.assertTrue(all([" " <= sign <= "~" for sign in line]), file)
            for node in ast.walk(ast.parse(file.read_text())):
                if isinstance(node, ast.FunctionDef):
                    self.assertLessEqual(node.end_lineno - node.lineno + 1, 40, (file, node.name))

    def test_methods_of_a_roof(self):
        takes = {
            "found": ["house"], "come": ["kind", "word", "house"], "go": ["who"], "put_in": ["who", "group"],
            "take_out": ["who", "group"], "call": ["who", "word"], "merge": ["house", "other"],
            "trust": ["house", "other"], "mistrust": ["house", "other"], "take_back": [], "time": [], "houses": [],
            "ranges": ["house"], "everyone": ["house"], "name": ["who"], "number": ["name"], "members": ["group"],
            "trusted": ["house"], "__init__": [],
        }
        for word in takes:
            self.assertEqual(shape(getattr(roofs.Roof, word)), (takes[word], None), word)
        self.assertEqual(shape(roofs.Roof.move), (["who", "house"], {"word": None}))

    def test_word_of_move_is_handed_in_by_name_alone(self):
        roof = roofs.Roof()
        roof.found("oak")
        who = roof.come("one", "ann", "oak")
        with self.assertRaises(TypeError):
            roof.move(who, "oak", "bea")
        self.assertEqual(roof.move(who, "oak", word="bea"), ("one", "bea", "oak"))


if __name__ == "__main__":
    unittest.main()
