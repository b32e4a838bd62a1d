"""The package keeps to the rules of its language, as far as a look at its files can tell."""

import ast
import pathlib
import unittest

FOLDER = pathlib.Path(__file__).resolve().parent.parent / "samewords"
LIBRARY = {"heapq": {"heappush", "heappop", "heapify", "heapreplace", "heappushpop"},
           "math": {"gcd", "lcm", "isqrt", "comb", "perm", "factorial"},
           "itertools": {"product", "combinations", "permutations", "chain", "accumulate", "pairwise", "islice",
                         "zip_longest"},
           "collections": {"defaultdict", "deque"}, "__future__": {"annotations"}}
BUILTINS = set("""len range enumerate zip min max sum abs sorted reversed int str bool list tuple dict set isinstance ord
repr any all divmod Exception ValueError TypeError KeyError IndexError LookupError NotImplemented""".split())
SPECIAL = set("""__init__ __eq__ __len__ __add__ __sub__ __mul__ __lshift__ __neg__""".split())
WORDS = set("""type typing enum Enum Flag Generic Protocol ABC namedtuple register mro elements open input law eval exec
compile id os exit quit vars dir help globals locals super""".split())
INTERFACE = {
    "errors": "SameError BadName TooMany TooLong Finished NothingDone", "formulas": "Formula Number Name Sum Call",
    "meaning": "told turns degrees is_small", "tables": "Table table table_of_box described",
    "shapes": "formula_of is_sumless sumless",
    "verdicts": "alike apart same_bits hangs swing is_swing constant",
    "boxes": "box_paper is_box_paper is_apart", "programs": "Program Choice run is_plain",
    "plain": "program_degrees tables programs_alike programs_apart is_programs_apart",
    "leaving": "without idle classes constants lean",
    "agreeing": "profile verdict nearest class_kind class_paper is_class_paper profile_of meets",
    "texts": "write_formula read_formula", "listings": "write_program read_program", "flows": "Flow flow_of",
    "orders": "is_order held need laying crowd is_laying is_crowd", "floors": "fewest best_order floor is_floor",
    "codes": "is_code code_inputs code_outs", "codetexts": "write_code read_code", "machine": "Machine go_code",
    "reading": "read_back",
    "right": "is_right wrong_input is_wrong_input right_paper is_right_paper", "coding": "code_of_order code_of",
    "passes": "passed program_paper is_program_paper", "reports": "Report compiled",
    "rests": "rests_alike rest_input carried", "desks": "Desk"}
METHODS = {
    "Formula": "input_names bound_names with_input __add__ __sub__ __mul__ __lshift__ __neg__ __eq__",
    "Table": "rows degree sum_below with_word word_at __add__ __sub__ __mul__ __lshift__ __neg__ __eq__",
    "Program": "laid __eq__", "Choice": "__eq__", "Flow": "__len__ input_names uses formula words __eq__",
    "Machine": "registers slots outputs step back go go_to placed",
    "Report": "fault holds papers is_papers __eq__",
    "Desk": "put drop exchange make undo names program_of report_of machine_of families trying"}


def trees():
    return {path: ast.parse(path.read_text()) for path in sorted(FOLDER.glob("*.py"))}


def nodes(kinds):
    return [(path.name, node) for path, tree in trees().items() for node in ast.walk(tree) if isinstance(node, kinds)]


class Language(unittest.TestCase):
    def test_files(self):
        for path in FOLDER.iterdir():
            if path.name != "__pycache__":
                self.assertRegex(path.name, r"^[a-z_]+\.py$")
                text = path.read_text()
                self.assertLessEqual(len(text.splitlines()), 399, path.name)
                for line in text.splitlines():
                    self.assertLessEqual(len(line), 120, (path.name, line))
                self.assertTrue(all(char == "\n" or " " <= char <= "~" for char in text), path.name)

    def test_module_level(self):
        for path, tree in trees().items():
            for node in tree.body:
                docstring = isinstance(node, ast.Expr) and isinstance(node.value, ast.Constant)
                kinds = (ast.ImportFrom, ast.FunctionDef, ast.ClassDef, ast.Assign)
                self.assertTrue(docstring or isinstance(node, kinds), (path.name, node.lineno))

    def test_functions(self):
        for name, node in nodes(ast.FunctionDef):
            self.assertLessEqual(node.end_lineno - node.lineno + 1, 40, (name, node.name))
            self.assertTrue(all(isinstance(one, ast.Name) and one.id == "property" for one in node.decorator_list))
            if node.name.startswith("__"):
                self.assertIn(node.name, SPECIAL)

    def test_imports(self):
        self.assertEqual(nodes(ast.Import), [])
        for name, node in nodes(ast.ImportFrom):
            self.assertEqual(node.level, 0)
            self.assertTrue(all(alias.asname is None for alias in node.names))
            if node.module in LIBRARY:
                self.assertTrue({alias.name for alias in node.names} <= LIBRARY[node.module])
            else:
                self.assertTrue(node.module.startswith("samewords."), (name, node.module))
                defined = ast.parse((FOLDER / (node.module.split(".")[1] + ".py")).read_text()).body
                found = {one.name for one in defined if isinstance(one, (ast.FunctionDef, ast.ClassDef))}
                found |= {one.targets[0].id for one in defined if isinstance(one, ast.Assign)}
                self.assertTrue({alias.name for alias in node.names} <= found, (name, node.module))

    def test_imported_names_are_used_and_not_hidden(self):
        for path, tree in trees().items():
            imported = {alias.name for node in ast.walk(tree) if isinstance(node, ast.ImportFrom) for alias in node.names}
            stored = {node.id for node in ast.walk(tree) if isinstance(node, ast.Name) and isinstance(node.ctx, ast.Store)}
            stored |= {node.arg for node in ast.walk(tree) if isinstance(node, ast.arg)}
            read = {node.id for node in ast.walk(tree) if isinstance(node, ast.Name) and isinstance(node.ctx, ast.Load)}
            self.assertEqual(imported & stored, set(), path.name)
            self.assertEqual(imported - read, set(), path.name)
            self.assertEqual(stored & (BUILTINS | WORDS), set(), path.name)
            self.assertNotIn("_", read)

    def test_what_is_not_used(self):
        barred = (ast.GeneratorExp, ast.Lambda, ast.With, ast.Global, ast.Yield, ast.YieldFrom, ast.AugAssign,
                  ast.Div, ast.AsyncFunctionDef, ast.Match, ast.Set, ast.SetComp, ast.Delete, ast.Await)
        self.assertEqual(nodes(barred), [])

    def test_own_errors_alone_are_caught(self):
        for name, node in nodes(ast.Try):
            self.assertEqual(node.orelse, [], name)
            self.assertTrue(all(handler.type.id == "SameError" for handler in node.handlers), name)
            # Behind an error that is passed on, attributes are given back what a plain name held, nothing else.
            for one in node.finalbody:
                self.assertIsInstance(one, ast.Assign, name)
                self.assertIsInstance(one.targets[0], ast.Attribute, name)
                self.assertIsInstance(one.value, ast.Name, name)

    def test_what_is_read_at_module_level_is_not_changed(self):
        for path, tree in trees().items():
            for node in tree.body:
                if isinstance(node, ast.Assign):
                    self.assertEqual(len(node.targets), 1, path.name)
                    held = node.value.values if isinstance(node.value, ast.Dict) else getattr(node.value, "elts", [])
                    self.assertFalse(any(isinstance(one, (ast.List, ast.Dict)) for one in held), path.name)

    def test_exponents_are_literals(self):
        for name, node in nodes(ast.BinOp):
            if isinstance(node.op, ast.Pow):
                self.assertIsInstance(node.right, ast.Constant, name)
                self.assertLessEqual(node.right.value, 64)

    def test_stars_stand_before_names(self):
        for name, node in nodes(ast.Starred):
            self.assertIsInstance(node.value, ast.Name, name)

    def test_sets_stand_in_sorted_or_len(self):
        allowed = 0
        for _, node in nodes(ast.Call):
            if isinstance(node.func, ast.Name) and node.func.id in ("sorted", "len"):
                allowed += sum(isinstance(one, ast.Call) and isinstance(one.func, ast.Name) and one.func.id == "set"
                               for one in node.args)
        found = [node for _, node in nodes(ast.Call) if isinstance(node.func, ast.Name) and node.func.id == "set"]
        self.assertEqual(len(found), allowed)

    def test_raise_makes_its_error(self):
        for name, node in nodes(ast.Raise):
            self.assertIsInstance(node.exc, ast.Call, name)

    def test_strings(self):
        for name, node in nodes(ast.Constant):
            if isinstance(node.value, str):
                self.assertNotIn("%", node.value, name)
            self.assertNotIsInstance(node.value, (float, bytes), name)

    def test_interface(self):
        for module, names in INTERFACE.items():
            tree = ast.parse((FOLDER / (module + ".py")).read_text())
            defined = {node.name for node in tree.body if isinstance(node, (ast.FunctionDef, ast.ClassDef))}
            self.assertTrue(set(names.split()) <= defined, module)

    def test_methods_stand_in_their_classes(self):
        found = {node.name: {one.name for one in node.body if isinstance(one, ast.FunctionDef)}
                 for _, node in nodes(ast.ClassDef)}
        for name, methods in METHODS.items():
            self.assertTrue(set(methods.split()) <= found[name], name)

    def test_no_name_is_a_method_and_an_attribute(self):
        methods = {one.name for _, node in nodes(ast.ClassDef) for one in node.body if isinstance(one, ast.FunctionDef)}
        attributes = {node.attr for _, node in nodes(ast.Attribute) if isinstance(node.ctx, ast.Store)}
        self.assertEqual(methods & attributes, set())

    def test_no_file_imports_itself_by_others(self):
        imports = {path.stem: {node.module.split(".")[1] for node in ast.walk(tree) if isinstance(node, ast.ImportFrom)
                               and node.module.startswith("samewords.")} for path, tree in trees().items()}
        done = set()
        while len(done) < len(imports):
            ready = [name for name in imports if name not in done and imports[name] <= done]
            self.assertTrue(ready, "files import from each other")
            done.update(ready)
