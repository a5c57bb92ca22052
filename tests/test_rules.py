"""Those rules of ../shared/LANGUAGE.md that are easily seen in the files of the package."""

import ast
import builtins
import pathlib
import re
import unittest

PACKAGE = pathlib.Path(__file__).resolve().parent.parent / "bykindalone"
BUILTINS = set(
    "len range enumerate zip min max sum abs sorted reversed int str bool list tuple dict set isinstance ord repr any "
    "all divmod pow iter next Exception ValueError TypeError KeyError IndexError LookupError ZeroDivisionError "
    "ArithmeticError OverflowError RuntimeError NotImplementedError AttributeError NotImplemented".split()
)
METHODS = set(
    "append clear copy count endswith extend find get index insert isalnum isalpha isdigit islower isspace isupper "
    "items join keys ljust lower lstrip partition pop remove replace reverse rfind rjust rpartition rsplit rstrip "
    "setdefault split splitlines startswith strip update upper values zfill bit_length sort add discard".split()
)
BARRED = re.compile(
    r"\b(?:typing|typing_extensions|enum|Enum|IntEnum|StrEnum|Flag|IntFlag|Generic|Protocol|ABC|ABCMeta|namedtuple|"
    r"NamedTuple|TypedDict|TYPE_CHECKING|abstractmethod|register|mro|elements|open|input|law|eval|exec|globals)\b"
    r"|dataclass|overload|contextmanager|_wall|_WallAttr"
)
STATEMENTS = (ast.Global, ast.AsyncFunctionDef, ast.AsyncFor, ast.AsyncWith, ast.Import)
INTERFACE = {
    "errors": (
        "KindError InvalidKind InvalidValue InvalidLine InvalidThing TooMany InvalidTable InvalidNumber InvalidFilling "
        "InvalidContext InvalidArguments InvalidRelation NotRelated InvalidShape InvalidThings InvalidAnswers "
        "InvalidNumbers InvalidRuns InvalidTerm WrongTerm InvalidText NotData NotFirst NotTested NotPutting Unfilled "
        "UnlikeKinds"
    ),
    "kinds": "is_kind is_data_kind is_closed_kind depth_of_kind variables_of",
    "values": "is_value order",
    "terms": "is_name is_term is_written parts_of depth_of free_names part_at",
    "text": "read_kind read_term read_value show_kind show_term show_value",
    "kinding": "kind_of filled",
    "promises": "promise_of promise_text equation_text",
    "meaning": "told",
    "marks": "is_first is_tested places shape_of marked laid table_of by_table alike_at",
    "answers": "tested_answer tested_alike parting_answers",
    "putters": "put_by puts_in_order out_of_order",
    "relations": (
        "is_relation fillings is_tried related_pairs are_related way_apart flipped behind is_turn turned both_told"
    ),
    "checker": "accepts",
    "certificates": (
        "certify_kind certify_told certify_table certify_alike certify_tests certify_order certify_related certify_none"
    ),
    "desk": "Desk",
}


def package_files():
    return sorted(PACKAGE.rglob("*.py"))


def trees():
    return [(path.name, ast.parse(path.read_text("utf-8"))) for path in package_files()]


def nodes_of(kinds):
    return [(name, node) for name, tree in trees() for node in ast.walk(tree) if isinstance(node, kinds)]


class TestFiles(unittest.TestCase):
    def test_the_folder_holds_python_files_alone(self):
        for path in PACKAGE.rglob("*"):
            if "__pycache__" not in path.parts:
                self.assertTrue(path.is_dir() or path.suffix == ".py", path)
                self.assertRegex(path.stem, r"^[a-z0-9_]+$")
        self.assertTrue((PACKAGE / "__init__.py").is_file())
        self.assertLessEqual(len(package_files()), 100)

    def test_files_and_rows_are_short(self):
        for path in package_files():
            rows = path.read_text("utf-8").split("\n")
            self.assertLessEqual(len(rows), 399, path)
            for at, row in enumerate(rows):
                self.assertLessEqual(len(row), 120, f"{path} {at + 1}")

    def test_all_signs_are_plain(self):
        for path in package_files():
            for sign in path.read_bytes():
                self.assertTrue(sign == 10 or 32 <= sign <= 126, f"{path} {sign}")

    def test_functions_are_short(self):
        for name, node in nodes_of(ast.FunctionDef):
            self.assertLessEqual(node.end_lineno - node.lineno + 1, 40, f"{name} {node.lineno}")

    def test_barred_words_stand_nowhere(self):
        for path in package_files():
            for at, row in enumerate(path.read_text("utf-8").split("\n")):
                self.assertIsNone(BARRED.search(row), f"{path} {at + 1}")


class TestNames(unittest.TestCase):
    def test_the_methods_of_the_desk_stand_in_its_class(self):
        tree = ast.parse((PACKAGE / "desk.py").read_text("utf-8"))
        found = [node for node in tree.body if isinstance(node, ast.ClassDef) and node.name == "Desk"]
        self.assertEqual(len(found), 1)
        self.assertLessEqual({"say", "programs"}, {node.name for node in found[0].body if isinstance(node, ast.FunctionDef)})

    def test_no_local_name_is_that_of_an_import_or_a_class(self):
        for name, tree in trees():
            taken = {alias.name for node in ast.walk(tree) if isinstance(node, ast.ImportFrom) for alias in node.names}
            taken |= {node.name for node in ast.walk(tree) if isinstance(node, ast.ClassDef)}
            bound = {node.arg for node in ast.walk(tree) if isinstance(node, ast.arg)}
            bound |= {node.id for node in ast.walk(tree) if isinstance(node, ast.Name) and isinstance(node.ctx, ast.Store)}
            self.assertEqual(bound & taken, set(), name)

    def test_each_import_is_used(self):
        for name, tree in trees():
            imported = {alias.name for node in ast.walk(tree) if isinstance(node, ast.ImportFrom) for alias in node.names}
            used = {node.id for node in ast.walk(tree) if isinstance(node, ast.Name)}
            self.assertEqual(imported - used, set(), name)

    def test_the_interface_is_defined_in_its_files(self):
        for module, names in INTERFACE.items():
            tree = ast.parse((PACKAGE / (module + ".py")).read_text("utf-8"))
            found = {node.name for node in tree.body if isinstance(node, (ast.FunctionDef, ast.ClassDef))}
            self.assertEqual(set(names.split()) - found, set(), module)

    def test_imports_are_full_names_of_the_package(self):
        for name, node in nodes_of(ast.ImportFrom):
            where = f"{name} {node.lineno}"
            self.assertEqual(node.level, 0, where)
            self.assertNotIn("*", [alias.name for alias in node.names], where)
            self.assertRegex(node.module, r"^(bykindalone\.[a-z0-9_]+|heapq|math|itertools|collections)$", where)

    def test_imports_name_the_defining_file_and_make_no_ring(self):
        above = {}
        for name, node in nodes_of(ast.ImportFrom):
            if node.module.startswith("bykindalone."):
                other = node.module.split(".")[1]
                above.setdefault(name[:-len(".py")], set()).add(other)
                tree = ast.parse((PACKAGE / (other + ".py")).read_text("utf-8"))
                bound = {part.name for part in tree.body if isinstance(part, (ast.FunctionDef, ast.ClassDef))}
                bound |= {goal.id for part in tree.body if isinstance(part, ast.Assign) for goal in part.targets}
                for alias in node.names:
                    self.assertIn(alias.name, bound, f"{name} {node.lineno}")
        while above:
            free = [name for name in above if not above[name] & set(above)]
            self.assertTrue(free, f"these import from each other: {sorted(above)}")
            for name in free:
                del above[name]

    def test_only_known_builtins_are_used(self):
        for name, tree in trees():
            known = set(BUILTINS)
            for node in ast.walk(tree):
                if isinstance(node, (ast.FunctionDef, ast.ClassDef)):
                    known.add(node.name)
                elif isinstance(node, ast.arg):
                    known.add(node.arg)
                elif isinstance(node, ast.alias):
                    known.add(node.asname or node.name)
                elif isinstance(node, ast.Name) and isinstance(node.ctx, ast.Store):
                    known.add(node.id)
                elif isinstance(node, ast.ExceptHandler) and node.name:
                    known.add(node.name)
            for node in ast.walk(tree):
                if isinstance(node, ast.Name) and isinstance(node.ctx, ast.Load):
                    self.assertIn(node.id, known, f"{name} {node.lineno}")

    def test_no_name_is_that_of_a_builtin(self):
        for name, tree in trees():
            bound = [node.name for node in tree.body if isinstance(node, (ast.FunctionDef, ast.ClassDef))]
            bound += [node.arg for node in ast.walk(tree) if isinstance(node, ast.arg)]
            bound += [node.id for node in ast.walk(tree) if isinstance(node, ast.Name) and isinstance(node.ctx, ast.Store)]
            for word in bound:
                self.assertFalse(hasattr(builtins, word), f"{name} {word}")

    def test_only_known_methods_are_called(self):
        own = {node.name for _, node in nodes_of(ast.FunctionDef)}
        for name, node in nodes_of(ast.Call):
            if isinstance(node.func, ast.Attribute):
                self.assertIn(node.func.attr, METHODS | own, f"{name} {node.lineno}")


class TestStatements(unittest.TestCase):
    def test_barred_statements_stand_nowhere(self):
        for name, node in nodes_of(STATEMENTS):
            self.assertEqual(name, "__main__.py", f"{name} {node.lineno}")

    def test_only_named_errors_are_caught(self):
        for name, node in nodes_of(ast.ExceptHandler):
            self.assertIsNotNone(node.type, f"{name} {node.lineno}")

    def test_no_floats(self):
        for name, node in nodes_of((ast.Constant, ast.Div)):
            self.assertNotIsInstance(node, ast.Div, name)
            self.assertNotIsInstance(node.value, (float, complex), f"{name} {node.lineno}")

    def test_no_percent_sign_in_a_text(self):
        for name, node in nodes_of(ast.Constant):
            if isinstance(node.value, str):
                self.assertNotIn("%", node.value, f"{name} {node.lineno}")

    def test_is_stands_beside_none_true_and_false(self):
        for name, node in nodes_of(ast.Compare):
            for sign, part in zip(node.ops, node.comparators):
                if isinstance(sign, (ast.Is, ast.IsNot)):
                    where = f"{name} {node.lineno}"
                    self.assertIsInstance(part, ast.Constant, where)
                    self.assertTrue(part.value is None or isinstance(part.value, bool), where)

    def test_functions_have_no_decorators(self):
        for name, node in nodes_of((ast.FunctionDef, ast.ClassDef)):
            for decorator in node.decorator_list:
                self.assertIsInstance(node, ast.FunctionDef, f"{name} {node.lineno}")
                self.assertIsInstance(decorator, (ast.Name, ast.Attribute), f"{name} {node.lineno}")

    def test_modules_hold_definitions_and_plain_values_alone(self):
        allowed = (ast.FunctionDef, ast.ClassDef, ast.ImportFrom, ast.Import, ast.Assign, ast.Expr, ast.If)
        for name, tree in trees():
            for node in tree.body:
                self.assertIsInstance(node, allowed, f"{name} {node.lineno}")
                if isinstance(node, ast.Expr):
                    self.assertIsInstance(node.value, ast.Constant, f"{name} {node.lineno}")
                if isinstance(node, ast.If):
                    self.assertEqual(name, "__main__.py")
                if isinstance(node, ast.Assign):
                    self.assertEqual(len(node.targets), 1, f"{name} {node.lineno}")
                    self.assertIsInstance(node.targets[0], ast.Name, f"{name} {node.lineno}")


if __name__ == "__main__":
    unittest.main()
