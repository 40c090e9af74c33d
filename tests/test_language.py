"""What ../shared/LANGUAGE.md asks of each file of the package, as far as it can be counted."""

import ast
import builtins
import os
import unittest

HERE = os.path.dirname(os.path.dirname(os.path.abspath(__file__)))
LIBRARY = {"math": {"gcd", "factorial", "comb"}}
CALLED = {"len", "range", "enumerate", "zip", "min", "max", "sum", "abs", "sorted", "reversed", "int", "str", "bool",
          "list", "tuple", "dict", "set", "isinstance", "any", "all", "iter"}
METHODS = set("append clear copy count endswith extend find get index insert isdigit items join keys partition pop "
              "remove replace reverse rfind split startswith strip update upper values bit_length".split())
SPECIAL = set("__init__ __eq__ __repr__ __str__ __len__ __enter__ __exit__ __iter__ __bool__ __contains__ __getitem__ "
              "__add__ __sub__ __and__ __rshift__".split())
CHANGING = set("append clear extend insert pop remove reverse setdefault sort update".split())
NO_ATTRIBUTES = set("items keys values pop update append clear extend insert remove reverse setdefault sort args encode "
                    "decode hex fromhex format mro elements open input law register".split())
NO_NAMES = set("mro elements open input law attrgetter breakpoint compile copyright delattr dir eval exec exit gc getattr "
               "globals hasattr help id license locals os quit setattr super type vars sys".split())
NO_STATEMENTS = (ast.AsyncFunctionDef, ast.AsyncFor, ast.AsyncWith, ast.Await, ast.Global, ast.Nonlocal, ast.Match,
                 ast.Import, ast.GeneratorExp, ast.Lambda, ast.NamedExpr, ast.Delete, ast.Div, ast.Assert, ast.YieldFrom)


def files():
    folder = os.path.join(HERE, "stayopen")
    for name in sorted(os.listdir(folder)):
        if name != "__pycache__":
            with open(os.path.join(folder, name), encoding="ascii") as file:
                yield name, file.read()


def nodes(*kinds):
    """All nodes of these kinds in all files, each with the name of its file and its row."""
    for name, text in files():
        for node in ast.walk(ast.parse(text)):
            if isinstance(node, kinds):
                yield f"{name}:{getattr(node, 'lineno', 0)}", node


def is_decorated(method, word):
    return any(ast.unparse(told) == word for told in method.decorator_list)


def methods(told):
    return [part for part in told.body if isinstance(part, ast.FunctionDef)]


def stored_attributes():
    """All attributes that are assigned, in any way, with their places."""
    for place, node in nodes(ast.Attribute):
        if isinstance(node.ctx, ast.Store):
            yield place, node.attr


def properties(with_setter):
    """The names of all properties; only of those with a setter, or without."""
    found = set()
    for _, told in nodes(ast.ClassDef):
        own = {method.name for method in methods(told) if is_decorated(method, "property")}
        set_too = {name for name in own for method in methods(told) if is_decorated(method, f"{name}.setter")}
        found |= set_too if with_setter else own - set_too
    return found


def lists_of(told):
    """The names and the fields that a value may stand for; of what goes over others, those that it goes over."""
    if isinstance(told, ast.Name):
        return [told.id]
    if isinstance(told, ast.Attribute):
        return ["." + told.attr]
    if isinstance(told, (ast.Subscript, ast.Starred)):
        return lists_of(told.value)
    if isinstance(told, ast.IfExp):
        return lists_of(told.body) + lists_of(told.orelse)
    if isinstance(told, ast.BoolOp):
        return [name for part in told.values for name in lists_of(part)]
    if isinstance(told, ast.Call) and ast.unparse(told.func) in ("enumerate", "zip", "reversed"):
        return [name for part in told.args for name in lists_of(part)]
    if isinstance(told, ast.Call) and isinstance(told.func, ast.Attribute) and told.func.attr in ("items", "keys", "values"):
        return lists_of(told.func.value)
    return []


def alike_names(function):
    """Pairs of names and fields of a function, the one of which is assigned what the other one stands for."""
    pairs = []
    for node in ast.walk(function):
        if isinstance(node, ast.Assign):
            for target in node.targets:
                is_pair = isinstance(target, ast.Tuple) and isinstance(node.value, ast.Tuple)
                for one, other in zip(target.elts, node.value.elts) if is_pair else [(target, node.value)]:
                    pairs += [(left, right) for left in lists_of(one) for right in lists_of(other)]
    return pairs


def changed_lists(part):
    """The names and the fields that a part of a function changes, each with its row."""
    for node in ast.walk(part):
        told = None
        if isinstance(node, ast.Call) and isinstance(node.func, ast.Attribute) and node.func.attr in CHANGING:
            told = node.func.value
        elif isinstance(node, ast.Subscript) and not isinstance(node.ctx, ast.Load):
            told = node.value
        elif isinstance(node, ast.AugAssign):
            told = node.target
        for name in lists_of(told):
            yield name, node.lineno


def rows_changed_in_their_loops(tree):
    """The rows that change what a loop or a comprehension around them walks, by whatever name it is called there."""
    found = set()
    for function in ast.walk(tree):
        if not isinstance(function, ast.FunctionDef):
            continue
        pairs = alike_names(function)
        for node in ast.walk(function):
            parts, walked = [], set()
            if isinstance(node, ast.For):
                parts, walked = node.body, set(lists_of(node.iter))
            elif isinstance(node, (ast.ListComp, ast.DictComp, ast.SetComp)):
                parts, walked = [node], {name for told in node.generators for name in lists_of(told.iter)}
            for _ in pairs:
                for pair in pairs:
                    if walked & set(pair):
                        walked |= set(pair)
            found |= {row for part in parts for name, row in changed_lists(part) if name in walked}
    return sorted(found)


class Files(unittest.TestCase):
    def test_sizes_and_signs(self):
        told = list(files())
        self.assertLessEqual(len(told), 100)
        for name, text in told:
            self.assertTrue(name.endswith(".py") and name == name.lower(), name)
            lines = text.split("\n")
            self.assertLessEqual(len(lines), 399, name)
            self.assertLessEqual(max(map(len, lines)), 120, name)
            self.assertTrue(all(sign == "\n" or " " <= sign <= "~" for sign in text), name)
        for place, node in nodes(ast.FunctionDef):
            self.assertLessEqual(node.end_lineno - node.lineno + 1, 40, f"{place} {node.name}")

    def test_imports(self):
        defined = {}
        rests = {}
        for name, text in files():
            body = ast.parse(text).body
            module = f"stayopen.{name[:-3]}"
            defined[module] = {part.name for part in body if isinstance(part, (ast.FunctionDef, ast.ClassDef))}
            defined[module] |= {part.targets[0].id for part in body if isinstance(part, ast.Assign)}
            rests[module] = [part for part in body if isinstance(part, ast.ImportFrom)]
        for place, node in nodes(ast.ImportFrom):
            names = {part.name for part in node.names}
            self.assertFalse(any(part.asname for part in node.names), place)
            self.assertLessEqual(names, LIBRARY[node.module] if node.module in LIBRARY else defined[node.module], place)
        done = set()
        while len(done) < len(rests):
            free = {name for name in rests if name not in done
                    and all(part.module in done or part.module in LIBRARY for part in rests[name])}
            self.assertTrue(free, f"imports go round: {sorted(set(rests) - done)}")
            done |= free

    def test_every_import_is_used_and_bound_once(self):
        for name, text in files():
            tree = ast.parse(text)
            imported = [part.name for node in tree.body if isinstance(node, ast.ImportFrom) for part in node.names]
            used = {node.id for node in ast.walk(tree) if isinstance(node, ast.Name)}
            self.assertLessEqual(set(imported), used, name)
            bound = imported + [node.name for node in tree.body if isinstance(node, (ast.FunctionDef, ast.ClassDef))]
            self.assertEqual(len(bound), len(set(bound)), name)
            inner = {node.id for node in ast.walk(tree) if isinstance(node, ast.Name) and isinstance(node.ctx, ast.Store)}
            inner |= {node.arg for node in ast.walk(tree) if isinstance(node, ast.arg)}
            classes = {node.name for node in tree.body if isinstance(node, ast.ClassDef)}
            self.assertFalse(inner & (set(imported) | classes), name)


class Properties(unittest.TestCase):
    def test_no_property_without_a_setter_is_assigned(self):
        told = properties(False)
        self.assertIn("states", told)
        for place, name in stored_attributes():
            self.assertNotIn(name, told, place)

    def test_properties_with_setters_are_so_everywhere(self):
        self.assertFalse(properties(True) & properties(False))

    def test_no_property_has_the_name_of_a_method_or_of_a_class_value(self):
        told = properties(False) | properties(True)
        for place, node in nodes(ast.ClassDef):
            for method in methods(node):
                if not is_decorated(method, "property") and not is_decorated(method, f"{method.name}.setter"):
                    self.assertNotIn(method.name, told, place)
            for part in node.body:
                if isinstance(part, ast.Assign):
                    self.assertNotIn(part.targets[0].id, told, place)
        self.assertFalse(told & METHODS)


class Names(unittest.TestCase):
    def test_methods_and_attributes_of_one_class(self):
        for place, node in nodes(ast.ClassDef):
            own = {method.name for method in methods(node)}
            self.assertEqual(len(own), len(methods(node)), place)
            stored = {part.attr for part in ast.walk(node) if isinstance(part, ast.Attribute)
                      and isinstance(part.ctx, ast.Store) and isinstance(part.value, ast.Name) and part.value.id == "self"}
            self.assertFalse(own & stored, place)

    def test_generators_and_attributes(self):
        stored = {name for _, name in stored_attributes()}
        all_methods = [name for _, node in nodes(ast.ClassDef) for name in map(lambda part: part.name, methods(node))]
        functions = [node.name for _, node in nodes(ast.FunctionDef)]
        for place, node in nodes(ast.FunctionDef):
            if any(isinstance(part, (ast.Yield, ast.YieldFrom)) for part in ast.walk(node)):
                self.assertNotIn(node.name, stored, place)
                self.assertEqual(functions.count(node.name), 1, place)
            if node.name in all_methods and node.decorator_list and not is_decorated(node, "property"):
                self.assertNotIn(node.name, stored, place)

    def test_no_method_is_read_off_a_class(self):
        """Some names are methods of one class and attributes of another one, which only then may be."""
        classes = {node.name: {method.name for method in methods(node)} for _, node in nodes(ast.ClassDef)}
        for place, node in nodes(ast.Attribute):
            if isinstance(node.value, ast.Name) and node.value.id in classes:
                self.assertNotIn(node.attr, classes[node.value.id], place)

    def test_stars_in_calls(self):
        """Behind the star of a call stand names, and attributes off a name that are no properties."""
        all_properties = properties(False) | properties(True)
        for place, node in nodes(ast.Call):
            for told in (part.value for part in node.args if isinstance(part, ast.Starred)):
                if isinstance(told, ast.Attribute):
                    self.assertNotIn(told.attr, all_properties, place)
                    told = told.value
                self.assertIsInstance(told, ast.Name, place)

    def test_names_that_are_not_used(self):
        for place, node in nodes(ast.Name, ast.arg, ast.FunctionDef, ast.ClassDef):
            if isinstance(node, ast.Name):
                name, is_bound = node.id, isinstance(node.ctx, ast.Store)
            else:
                name, is_bound = node.arg if isinstance(node, ast.arg) else node.name, True
            self.assertNotIn(name, NO_NAMES, place)
            self.assertFalse(is_bound and hasattr(builtins, name) and name not in SPECIAL, f"{place} {name}")
            self.assertFalse(is_bound and name.startswith("__") and name not in SPECIAL, f"{place} {name}")
        for place, name in stored_attributes():
            self.assertNotIn(name, NO_ATTRIBUTES, place)

    def test_every_attribute_that_is_read_is_there(self):
        told = {name for _, name in stored_attributes()} | METHODS
        for _, node in nodes(ast.ClassDef):
            told |= {method.name for method in methods(node)}
            told |= {part.targets[0].id for part in node.body if isinstance(part, ast.Assign)}
        for place, node in nodes(ast.Attribute):
            self.assertTrue(node.attr in told, f"{place} {node.attr}")

    def test_builtins(self):
        for place, node in nodes(ast.Name):
            if hasattr(builtins, node.id):
                self.assertIn(node.id, CALLED | {"ValueError", "property", "staticmethod", "classmethod"}, f"{place} {node.id}")


class Statements(unittest.TestCase):
    def test_what_is_left_out(self):
        allowed = {"walks.py": ast.YieldFrom, "plays.py": ast.Delete, "ring_changes.py": ast.Delete}
        for place, node in nodes(*NO_STATEMENTS):
            self.assertIs(type(node), allowed.get(place.split(":")[0]), place)
        for place, node in nodes(ast.Constant):
            self.assertNotIsInstance(node.value, float, place)

    def test_decorators_and_defaults(self):
        for place, node in nodes(ast.FunctionDef):
            for told in node.decorator_list:
                self.assertIn(ast.unparse(told), ("property", "staticmethod", "classmethod"), place)
            for told in (*node.args.defaults, *[part for part in node.args.kw_defaults if part is not None]):
                ast.literal_eval(told)
                self.assertNotIsInstance(told, (ast.List, ast.Dict, ast.Set), place)
        for place, node in nodes(ast.ClassDef):
            self.assertFalse(node.decorator_list, place)

    def test_modules_and_classes_hold_plain_values(self):
        for name, text in files():
            tree = ast.parse(text)
            functions = set()
            for part in tree.body:
                if isinstance(part, ast.FunctionDef):
                    functions.add(part.name)
                self.assertIsInstance(part, (ast.Expr, ast.ImportFrom, ast.Assign, ast.FunctionDef, ast.ClassDef), name)
                if isinstance(part, ast.Assign):
                    self.assertEqual([len(part.targets), type(part.targets[0])], [1, ast.Name], name)
                    if isinstance(part.value, ast.Dict) and all(isinstance(told, ast.Name) for told in part.value.values):
                        # A table of functions that are defined above it.
                        self.assertLessEqual({told.id for told in part.value.values}, functions, name)
                        part.value.values = part.value.keys
                    ast.literal_eval(part.value)
                if isinstance(part, ast.Expr):
                    self.assertIsInstance(part.value.value, str, name)

    def test_errors_that_are_caught_and_raised(self):
        own = {node.name for _, node in nodes(ast.ClassDef) if any(ast.unparse(base) in ("OpenError", "ValueError")
                                                                  for base in node.bases)}
        for place, node in nodes(ast.ExceptHandler):
            self.assertIn(ast.unparse(node.type), own, place)
        for place, node in nodes(ast.Raise):
            self.assertTrue(node.exc is None or node.exc.func.id in own, place)
            self.assertIsNone(node.cause, place)

    def test_is_and_isinstance(self):
        for place, node in nodes(ast.Compare):
            for sign, other in zip(node.ops, node.comparators):
                if isinstance(sign, (ast.Is, ast.IsNot)):
                    self.assertIn(ast.unparse(other), ("None", "True", "False"), place)

    def test_sets(self):
        """A set stands after in, beside == or !=, or directly in sorted or len."""
        for name, text in files():
            tree = ast.parse(text)
            fine = set()
            for node in ast.walk(tree):
                if isinstance(node, ast.Call) and ast.unparse(node.func) in ("sorted", "len"):
                    fine.update(id(part) for part in node.args)
                if isinstance(node, ast.Compare):
                    fine.update(id(part) for part in (node.left, *node.comparators))
            for node in ast.walk(tree):
                is_call = isinstance(node, ast.Call) and ast.unparse(node.func) == "set"
                if is_call or isinstance(node, (ast.Set, ast.SetComp)):
                    self.assertIn(id(node), fine, f"{name}:{node.lineno}")

    def test_what_is_iterated_at_once(self):
        """zip, enumerate, reversed, items, keys and values stand after an in, or in a call that goes over them."""
        over = {"list", "tuple", "dict", "sorted", "sum", "any", "all", "enumerate", "zip", "min", "max"}
        for name, text in files():
            tree = ast.parse(text)
            fine = set()
            for node in ast.walk(tree):
                if isinstance(node, (ast.For, ast.comprehension)):
                    fine.add(id(node.iter))
                if isinstance(node, ast.Call) and ast.unparse(node.func) in over:
                    fine.update(id(part) for part in node.args[:1])
                if isinstance(node, ast.Call) and ast.unparse(node.func) == "zip":
                    fine.update(id(part) for part in node.args)
            for node in ast.walk(tree):
                if isinstance(node, ast.Call):
                    word = node.func.attr if isinstance(node.func, ast.Attribute) else ast.unparse(node.func)
                    if word in ("zip", "enumerate", "reversed", "items", "keys", "values"):
                        self.assertIn(id(node), fine, f"{name}:{node.lineno}")

    def test_what_a_loop_walks_is_not_changed_in_it(self):
        for name, text in files():
            self.assertEqual(rows_changed_in_their_loops(ast.parse(text)), [], name)

    def test_what_is_looked_for_in_loops(self):
        """A change by the same name, by another name, by a field, by a choice, and of what a zip or a view walks."""
        for ahead, walked, change, is_found in (
                ("", "rows", "rows.append(row)", True), ("", "list(rows)", "rows.append(row)", False),
                ("", "rows", "other.append(row)", False), ("rows = other", "rows", "other.append(row)", True),
                ("rows = other", "list(rows)", "other.append(row)", False), ("other = rows", "rows", "other[0] = row", True),
                ("rows, third = other, None", "rows", "other += [row]", True), ("", "self.rows", "other.rows.pop()", True),
                ("rows = self.rows", "rows", "del other.rows[0]", True), ("", "rows if row else other", "other.clear()", True),
                ("rows = third or other", "rows", "other.clear()", True), ("", "zip(rows, other)", "other.clear()", True),
                ("third = other\n    rows = third", "rows", "other.clear()", True), ("", "rows.items()", "rows[1] = 2", True),
                ("", "sorted(rows)", "rows.clear()", False)):
            text = f"def work(self, rows, other, row, third):\n    {ahead or 'pass'}\n    for row in {walked}:\n        {change}\n"
            rows = rows_changed_in_their_loops(ast.parse(text))
            self.assertEqual(rows, [text.count("\n")] if is_found else [], text)
        further = "while rows:\n        third = []\n        for row in rows:\n            third.append(row)\n        rows = third"
        self.assertEqual(rows_changed_in_their_loops(ast.parse(f"def work(rows):\n    {further}\n")), [5])

    def test_equality(self):
        """__eq__ asks first whether the other object is of its own class."""
        for place, told in nodes(ast.ClassDef):
            for method in methods(told):
                if method.name == "__eq__":
                    first = ast.unparse(method.body[0])
                    starts = (f"if not isinstance(other, {told.name}):\n    return False",
                              f"return isinstance(other, {told.name}) and ")
                    self.assertTrue(first.startswith(starts), place)

    def test_strings(self):
        for place, node in nodes(ast.Constant):
            if isinstance(node.value, str):
                self.assertFalse("%" in node.value or "__" in node.value, place)

    def test_exponents(self):
        for place, node in nodes(ast.BinOp):
            if isinstance(node.op, ast.Pow):
                self.assertIsInstance(node.right, ast.Constant, place)


if __name__ == "__main__":
    unittest.main()
