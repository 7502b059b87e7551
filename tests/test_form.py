import ast
import pathlib
import unittest

PACKAGE = pathlib.Path(__file__).resolve().parent.parent / "twistbrackets"
FILES = sorted(PACKAGE.glob("*.py"))


class FormTest(unittest.TestCase):
    """No clock, chance or file can be used by a package that draws on nothing but itself."""

    def test_the_files_of_the_interface_are_there(self):
        names = {path.name for path in FILES}
        self.assertLessEqual({"__init__.py", "errors.py", "brackets.py", "words.py", "sums.py", "notes.py"}, names)

    def test_only_the_package_itself_is_imported(self):
        for path in FILES:
            for node in ast.walk(ast.parse(path.read_text(encoding="ascii"))):
                self.assertNotIsInstance(node, ast.Import, path.name)
                if isinstance(node, ast.ImportFrom):
                    self.assertEqual(node.level, 0, path.name)
                    self.assertTrue(node.module.startswith("twistbrackets."), path.name)

    def test_nothing_is_opened_printed_or_asked_for(self):
        for path in FILES:
            names = {node.id for node in ast.walk(ast.parse(path.read_text(encoding="ascii"))) if isinstance(node, ast.Name)}
            self.assertFalse(names & {"open", "print", "input", "eval", "exec", "__import__", "globals"}, path.name)

    def test_nothing_at_a_files_top_can_be_changed(self):
        for path in FILES:
            for node in ast.parse(path.read_text(encoding="ascii")).body:
                if isinstance(node, ast.Assign):
                    self.assertIsInstance(ast.literal_eval(node.value), (int, str, tuple), path.name)


if __name__ == "__main__":
    unittest.main()
