"""The rules of the language that can be seen in the files, and where the interface stands."""
import ast
import os
import unittest

FOLDER = os.path.join(os.path.dirname(os.path.dirname(os.path.abspath(__file__))), "alldeeds")

INTERFACE = {
    "errors": ["DeedError", "BadValue", "TooDeep", "TooMany", "NotAText", "WrongStep", "Unlike", "Unknown", "Taken", "NotAFile",
               "BadPromise", "Broken", "NotMade", "NothingToUndo", "NothingToRedo", "CannotTake", "NotOfDeed", "WrongTerm",
               "NotOfProgram", "HasHand"],
    "forms": ["is_name", "is_form", "counter", "depth", "goods", "with_forms"],
    "formtexts": ["form_text", "read_form", "ends_text", "read_ends"],
    "ends": ["leaves", "forks", "leaf_ends", "fork_ends", "above_leaves", "above_forks", "choices", "is_choice", "met_leaves",
             "settled"],
    "deeds": ["Deed", "step_of", "replaced", "plain_deed", "deed_with_forms"],
    "deedtexts": ["deed_text", "read_deed"],
    "wirings": ["Wirings", "choices_of", "links_at", "turned_wirings"],
    "wirelines": ["wirings_text", "read_wirings"],
    "wired": ["wirings_of"],
    "likeness": ["alike", "first_unlike", "parting"],
    "cuts": ["nodes_of", "lines_of", "leaves_one_tree", "bad_cut", "BadCut", "first_unsound"],
    "taking": ["is_plain_link", "takings", "taken"],
    "back": ["comes_of_deed", "stuck_at", "deed_of"],
    "orders": ["count_orders", "first_order"],
    "handing": ["handed"],
    "rows": ["midways", "joined_row"],
    "reducing": ["ready_hands", "reduced", "without_hands"],
    "runs": ["answer", "Answer", "links_met", "walk", "Walk"],
    "entries": ["is_entry", "all_entries", "choice_of", "things_of", "entry_with"],
    "meanings": ["meaning_of", "meaning", "fits", "entry_count", "joined_meaning"],
    "toldback": ["is_single", "told_back"],
    "search": ["all_wirings", "count_unlike", "has_deed", "some_deed", "least_choices", "most_choices"],
    "midway": ["midway", "Midway", "middle_form", "crossing_goods", "rejoined"],
    "flatforms": ["flat_of", "same_forms", "is_flat", "form_of", "choice_count", "flat_leaves"],
    "undoing": ["is_plain_deed", "undo_each_other"],
    "sameforms": ["both_ways", "way_count", "ways", "changed_end"],
    "kinds": ["is_kind", "form_of_kind", "kind_of_form", "kind_taken", "kind_text", "read_kind", "goods_in"],
    "askings": ["askings_of", "answering", "first_unanswered"],
    "programtexts": ["is_term", "term_text", "read_program", "program_text"],
    "checking": ["Program"],
    "programdeeds": ["deed_of_program"],
    "readback": ["program_of_deed"],
    "programs": ["plain_program", "alike_programs", "parting_programs", "results", "composed"],
    "files": ["read_file", "file_text", "deeds_of"],
    "promises": ["promise_text", "read_promise"],
    "questions": ["asked"],
    "desk": ["Desk"],
}
METHODS = {"Deed": ["__init__", "__eq__", "size"], "Wirings": ["__init__", "__eq__"]}
METHODS["Program"] = ["__init__", "__eq__", "text", "kind_at", "names_at"]
METHODS["Desk"] = ["__init__", "put", "drop", "rename", "keep", "release", "attempt", "undo", "redo", "lines", "names", "promises", "deed",
                   "ask"]
METHODS.update({name: ["__init__"] for name in ("BadCut", "Answer", "Walk", "Midway")})

BUILTINS = set(
    "len range enumerate zip min max sum abs sorted reversed int str bool bytes list tuple dict set frozenset isinstance ord "
    "repr any all divmod pow iter next map getattr hasattr setattr super Exception ValueError TypeError KeyError IndexError "
    "LookupError ZeroDivisionError ArithmeticError OverflowError RuntimeError NotImplementedError AttributeError StopIteration "
    "NotImplemented object float print property staticmethod classmethod".split())
LIBRARY = {
    "heapq": "heappush heappop heapify heapreplace heappushpop", "math": "gcd lcm isqrt comb perm factorial",
    "itertools": "product combinations permutations chain accumulate pairwise islice zip_longest", "collections": "defaultdict",
    "__future__": "annotations",
}
METHODS_OF_VALUES = set(
    "append clear copy count endswith extend find get index insert isalnum isalpha isdigit islower isspace isupper items join "
    "keys ljust lower lstrip partition pop remove replace reverse rfind rjust rpartition rsplit rstrip setdefault split "
    "splitlines startswith strip update upper values zfill bit_length title capitalize swapcase casefold center expandtabs "
    "removeprefix removesuffix rindex isascii isdecimal isnumeric istitle isidentifier isprintable translate add discard encode "
    "decode hex sort format from_iterable maketrans from_bytes __class__ __name__".split())
BARRED_NAMES = set("register mro elements open input law version_info with_traceback add_note compile eval exec globals locals "
                   "id vars dir breakpoint delattr exit quit help".split())
DOUBLE = set(
    "init eq repr str len enter exit call iter lt le gt ge ne add sub mul floordiv mod pow and or xor lshift rshift neg pos invert "
    "abs bool contains getitem setitem slots radd rsub rmul iadd isub".split())


def files():
    return sorted(os.listdir(FOLDER))


def sources():
    """The pairs (name, text) of all files."""
    found = []
    for name in files():
        if name != "__pycache__":
            with open(os.path.join(FOLDER, name), "rb") as file:
                found.append((name, file.read().decode("ascii")))
    return found


def trees():
    return [(name, ast.parse(text)) for name, text in sources()]


def functions(tree):
    return [node for node in ast.walk(tree) if isinstance(node, ast.FunctionDef)]


def told_names(tree):
    """The names that a file defines at module level."""
    found = []
    for node in tree.body:
        if isinstance(node, (ast.FunctionDef, ast.ClassDef)):
            found.append(node.name)
        elif isinstance(node, ast.Assign):
            found.append(node.targets[0].id)
    return found


class Files(unittest.TestCase):
    def test_plain_files(self):
        for name in files():
            self.assertTrue(name == "__pycache__" or name.endswith(".py") and name[:-3].replace("_", "a").isalnum(), name)
            self.assertEqual(name, name.lower())
        self.assertLessEqual(len(files()), 100)

    def test_characters_and_sizes(self):
        for name, text in sources():
            with self.subTest(name=name):
                self.assertTrue(all(" " <= sign <= "~" or sign == "\n" for sign in text))
                lines = text.split("\n")
                self.assertLessEqual(len(lines), 400)
                self.assertLessEqual(max(len(line) for line in lines), 120)
                for node in functions(ast.parse(text)):
                    self.assertLessEqual(node.end_lineno - node.lineno + 1, 40, node.name)

    def test_imports(self):
        told = {name[:-3]: told_names(tree) for name, tree in trees()}
        needs = {}
        for name, tree in trees():
            needs[name[:-3]] = set()
            for node in ast.walk(tree):
                self.assertFalse(isinstance(node, ast.Import) and name != "__main__.py", name)
                if isinstance(node, ast.ImportFrom):
                    self.assertIn(node, tree.body)
                    self.assertEqual(node.level, 0)
                    words = [alias.name for alias in node.names]
                    if node.module in LIBRARY:
                        self.assertLessEqual(set(words), set(LIBRARY[node.module].split()))
                    else:
                        package, *module = node.module.split(".")
                        self.assertEqual((package, len(module)), ("alldeeds", 1))
                        self.assertLessEqual(set(words), set(told[module[0]]))
                        needs[name[:-3]].add(module[0])
        done = set()
        while len(done) < len(needs):
            ready = [name for name in needs if name not in done and needs[name] <= done]
            self.assertTrue(ready, "files import from each other")
            done.update(ready)


class Module(unittest.TestCase):
    def test_module_level(self):
        for name, tree in trees():
            seen = []
            for node in tree.body:
                with self.subTest(name=name, line=node.lineno):
                    if isinstance(node, ast.Expr):
                        self.assertIsInstance(node.value, ast.Constant)
                    elif isinstance(node, ast.Assign):
                        self.assertEqual(len(node.targets), 1)
                        self.assertIsInstance(node.targets[0], ast.Name)
                        self.assertFalse([part for part in ast.walk(node.value) if isinstance(part, (
                            ast.Call, ast.Set, ast.ListComp, ast.Lambda, ast.JoinedStr))])
                    else:
                        self.assertIsInstance(node, (ast.ImportFrom, ast.FunctionDef, ast.ClassDef))
            for node in tree.body:
                if isinstance(node, ast.ImportFrom):
                    seen.extend(alias.asname or alias.name for alias in node.names)
            seen.extend(told_names(tree))
            self.assertEqual(len(seen), len(set(seen)), name)

    def test_the_interface_stands_where_it_is_listed(self):
        told = dict((name[:-3], tree) for name, tree in trees())
        for module, names in INTERFACE.items():
            defined = {node.name: node for node in told[module].body if isinstance(node, (ast.FunctionDef, ast.ClassDef))}
            for name in names:
                self.assertIn(name, defined, module)
                self.assertEqual(isinstance(defined[name], ast.ClassDef), name[0].isupper())
                methods = [node.name for node in defined[name].body if isinstance(node, ast.FunctionDef)]
                for method in METHODS.get(name, []):
                    self.assertIn(method, methods)


class Statements(unittest.TestCase):
    def test_statements_and_expressions(self):
        barred = (ast.Global, ast.AsyncFunctionDef, ast.AsyncFor, ast.AsyncWith, ast.Await, ast.Div, ast.MatMult)
        for name, tree in trees():
            for node in ast.walk(tree):
                with self.subTest(name=name, line=getattr(node, "lineno", 0)):
                    self.assertNotIsInstance(node, barred)
                    if isinstance(node, ast.Compare):
                        for sign, right in zip(node.ops, node.comparators):
                            if isinstance(sign, (ast.Is, ast.IsNot)) and isinstance(right, ast.Constant):
                                self.assertIn(right.value, (None, True, False))
                    if isinstance(node, ast.ExceptHandler):
                        self.assertIsNotNone(node.type)
                    if isinstance(node, ast.Constant):
                        self.assertNotIsInstance(node.value, (float, complex))
                        self.assertFalse(isinstance(node.value, str) and "%" in node.value)

    def test_names(self):
        every = dir(__builtins__) if not isinstance(__builtins__, dict) else list(__builtins__)
        for name, tree in trees():
            outer = {alias.name for node in tree.body if isinstance(node, ast.ImportFrom) for alias in node.names}
            outer |= {node.name for node in tree.body if isinstance(node, ast.ClassDef)}
            for node in ast.walk(tree):
                if isinstance(node, ast.Name) and isinstance(node.ctx, ast.Store):
                    self.assert_free(node.id, every, name)
                    self.assertNotIn(node.id, outer, name)
                if isinstance(node, ast.arg):
                    self.assert_free(node.arg, every, name)
                    self.assertNotIn(node.arg, outer, name)
                if isinstance(node, (ast.FunctionDef, ast.ClassDef)):
                    if node.name.startswith("__"):
                        self.assertIn(node.name.strip("_"), DOUBLE)
                    else:
                        self.assertNotIn(node.name, BARRED_NAMES)
                if isinstance(node, ast.Name) and isinstance(node.ctx, ast.Load) and node.id in every:
                    self.assertIn(node.id, BUILTINS, name)

    def assert_free(self, word, every, name):
        self.assertNotIn(word, every, name)
        self.assertNotIn(word, BARRED_NAMES, name)
        self.assertFalse(word.startswith("__"), name)

    def test_methods_and_attributes(self):
        own, set_attributes = set(), set()
        for _, tree in trees():
            for node in ast.walk(tree):
                if isinstance(node, ast.ClassDef):
                    own.update(part.name for part in node.body if isinstance(part, ast.FunctionDef))
                    own.update(part.targets[0].id for part in node.body if isinstance(part, ast.Assign))
                if isinstance(node, ast.Attribute) and isinstance(node.ctx, ast.Store):
                    set_attributes.add(node.attr)
        for name, tree in trees():
            for node in ast.walk(tree):
                if isinstance(node, ast.Attribute) and isinstance(node.ctx, ast.Load):
                    self.assertIn(node.attr, own | set_attributes | METHODS_OF_VALUES, name)

    def test_raised_errors_are_made_on_the_spot(self):
        for name, tree in trees():
            for node in ast.walk(tree):
                if isinstance(node, ast.Raise) and node.exc is not None:
                    self.assertIsInstance(node.exc, ast.Call, name)
                    self.assertIsInstance(node.exc.func, ast.Name, name)
                    self.assertTrue(node.exc.func.id[0].isupper(), name)


if __name__ == "__main__":
    unittest.main()
