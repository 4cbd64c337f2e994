"""The interface and the form of the files of the package."""

import ast
import builtins
import importlib
import pathlib
import unittest

PACKAGE = pathlib.Path(__file__).resolve().parent.parent / "barbreaks"

# The modules in the order of the interface, with their functions and classes.
# The names of a class stand with what it must define in its own body.
INTERFACE = {
    "errors": {"BarbreaksError": [], "Refused": []},
    "words": {"is_name": None, "write_number": None, "read_number": None},
    "spans": {
        "Span": ["__init__", "size", "within", "__add__", "__radd__", "__sub__", "__rsub__",
                 "__neg__", "__and__", "__or__", "__contains__", "__eq__"],
        "hull": None,
    },
    "grids": {
        "Grid": ["__init__", "first_bar", "last_bar", "bars_between", "within", "read", "__str__",
                 "__add__", "__radd__", "__sub__", "__and__", "__contains__", "__eq__"],
        "common_grid": None,
    },
    "items": {
        "Named": ["__init__"],
        "Timed": ["__init__", "begin_at", "MOST_DELAY"],
        "Item": ["__init__", "words"],
        "Piece": ["__init__", "words", "MOST_SPREAD"],
        "Break": ["__init__", "words", "length", "limit", "MOST_PLACES", "MOST_PATIENCE"],
    },
    "houses": {"House": ["__init__", "with_apart"]},
    "orders": {
        "Order": ["__init__", "points", "number_of", "piece_names", "break_names", "begin_of",
                  "end_of", "call_of", "upto", "moved", "retimed", "swapped", "with_house",
                  "__len__", "__iter__", "__contains__", "__getitem__"],
    },
    "events": {"all_events": None, "point_of": None},
    "runs": {"Run": ["moment_of", "inside", "bound"], "run": None},
    "diaries": {"diary": None},
    "outlooks": {
        "Outlook": ["__init__", "span_of", "narrowed", "split_at", "carried", "row_count",
                    "first_row", "last_row", "rows", "lateness_of", "within", "__contains__"],
    },
    "courses": {"Course": ["__init__", "__call__", "latest", "__rshift__"]},
    "reach": {"Reach": ["__init__", "moments_at", "span_at", "lateness_at", "row_to"]},
    "tables": {"check_tables": None},
    "distances": {"Distance": [], "nearest": None, "farthest": None},
    "leasts": {"least_table": None},
    "corners": {"corner": None, "hollow": None},
    "demands": {"Demand": ["__init__", "__call__", "kept"], "margin": None, "fate": None},
    "breaches": {"Breach": [], "breaker": None},
    "trying": {"plain_nearest": None, "plain_breaker": None},
    "bands": {
        "Band": ["__init__", "spaced", "near", "part", "mirrored", "__len__", "__add__"],
    },
    "chains": {"chains": None, "most": None, "fewest": None},
    "covers": {"cover": None, "cover_bound": None},
    "layings": {"fits": None, "jam": None, "lay": None},
    "listing": {"every_laying": None},
    "places": {"places": None, "spot_band": None},
    "sheets": {
        "Sheet": ["__init__", "entries_of", "counts", "put", "__getitem__", "__iter__"],
    },
    "jams": {"Group": ["__init__"], "Jam": ["__init__"], "jam_of": None, "check_jam": None},
    "spots": {"lay_spots": None},
    "mosts": {"Most": [], "most_spots": None},
    "widths": {"Width": [], "widest": None},
    "stays": {"studio_band": None, "crew_band": None},
    "crowds": {"Crowd": [], "fewest_studios": None, "fewest_crews": None},
    "giving": {"give_studios": None, "give_crews": None},
    "lives": {"Live": [], "most_live": None},
    "plans": {
        "Plan": ["__init__", "with_studio", "with_crew", "with_spot", "with_order", "demands"],
    },
    "faults": {"faults": None},
    "judging": {
        "Verdict": ["line"], "Safe": ["line", "__bool__"], "Broken": ["line", "__bool__"],
        "margins": None, "judge": None, "weakest": None,
    },
    "plainly": {"plain_weakest": None},
    "troubles": {"Trouble": ["__init__"], "trouble": None, "check_trouble": None},
    "making": {"make_plan": None},
    "patterns": {"Pattern": ["__init__", "order_of", "beginning", "orders"]},
    "searches": {
        "Search": ["__init__"], "find_order": None, "check_search": None, "good_orders": None,
    },
    "minutes": {"Minute": [], "least_minute": None},
    "desks": {
        "Desk": ["__init__", "press", "finish", "walked", "packed", "expect", "put", "room", "staff",
                 "retime", "swap", "space", "undo", "attempt", "known", "margin", "left", "spacing",
                 "__getitem__", "__setitem__", "__iter__"],
    },
    "ordertexts": {"write_order": None, "read_order": None},
    "plantexts": {"write_plan": None, "read_plan": None},
    "scripts": {"perform": None},
    "charts": {"chart": None},
}

PROPERTIES = [("spans", "Span", "size"), ("items", "Break", "length"), ("items", "Break", "limit"),
              ("orders", "Order", "points"), ("desks", "Desk", "spacing")]


def sources():
    """The names and texts of all files of the package."""
    return {path.stem: path.read_text(encoding="utf-8") for path in sorted(PACKAGE.glob("*.py"))}


def imported(text):
    """The modules of the package that a file imports from."""
    return [node.module.partition(".")[2] for node in ast.walk(ast.parse(text))
            if isinstance(node, ast.ImportFrom) and node.module.startswith("barbreaks.")]


class TestInterface(unittest.TestCase):
    def test_all_is_defined_where_it_is_listed(self):
        for module, names in INTERFACE.items():
            found = importlib.import_module(f"barbreaks.{module}")
            for name in names:
                self.assertEqual(getattr(found, name).__module__, f"barbreaks.{module}", name)

    def test_all_methods_stand_in_their_class(self):
        for module, names in INTERFACE.items():
            found = importlib.import_module(f"barbreaks.{module}")
            for name, members in names.items():
                for member in members or []:
                    self.assertIn(member, vars(getattr(found, name)), f"{name}.{member}")

    def test_properties(self):
        for module, name, member in PROPERTIES:
            found = getattr(importlib.import_module(f"barbreaks.{module}"), name)
            self.assertIsInstance(vars(found)[member], property)

    def test_read_is_a_class_method(self):
        grid = importlib.import_module("barbreaks.grids").Grid
        self.assertIsInstance(vars(grid)["read"], classmethod)

    def test_spacing_can_be_assigned(self):
        desk = importlib.import_module("barbreaks.desks").Desk
        self.assertIsNotNone(vars(desk)["spacing"].fset)

    def test_every_module_is_listed(self):
        self.assertEqual(sorted(INTERFACE), sorted(set(sources()) - {"__init__"}))

    def test_modules_use_only_earlier_ones(self):
        modules = list(INTERFACE)
        texts = sources()
        for at, module in enumerate(modules):
            for other in imported(texts[module]):
                if other in modules:
                    self.assertLess(modules.index(other), at, f"{module} uses {other}")


class TestForm(unittest.TestCase):
    def test_folder_has_only_python_files(self):
        for path in PACKAGE.rglob("*"):
            if path.is_file() and path.suffix != ".pyc":
                self.assertEqual(path.suffix, ".py", path)

    def test_sizes_of_files_and_lines(self):
        for name, text in sources().items():
            lines = text.split("\n")
            self.assertLessEqual(len(lines), 400, name)
            for line in lines:
                self.assertLessEqual(len(line), 120, name)

    def test_signs(self):
        for name, text in sources().items():
            self.assertTrue(all(sign == "\n" or " " <= sign <= "~" for sign in text), name)

    def test_sizes_of_functions(self):
        for name, text in sources().items():
            for node in ast.walk(ast.parse(text)):
                if isinstance(node, ast.FunctionDef):
                    self.assertLessEqual(node.end_lineno - node.lineno + 1, 40, f"{name}.{node.name}")

    def test_imports_are_of_the_package_alone(self):
        allowed = ("__future__", "heapq", "math", "itertools", "collections")
        for name, text in sources().items():
            for node in ast.walk(ast.parse(text)):
                self.assertNotIsInstance(node, ast.Import, name)
                if isinstance(node, ast.ImportFrom):
                    own = node.module.startswith("barbreaks.") and node.level == 0
                    self.assertTrue(own or node.module in allowed, f"{name}: {node.module}")


OPERATORS = ("__add__", "__radd__", "__sub__", "__rsub__", "__neg__", "__and__", "__or__",
             "__rshift__", "__contains__", "__getitem__", "__bool__", "__eq__", "__len__",
             "__str__", "__repr__", "__iter__")


def attributes_of(trees):
    """The names of all attributes that some file assigns."""
    return {node.attr for tree in trees for node in ast.walk(tree)
            if isinstance(node, ast.Attribute) and isinstance(node.ctx, ast.Store)}


def defined_in(trees):
    """All functions and methods by their names; a class stands for its own `__init__`."""
    found = {}
    for tree in trees:
        for node in ast.walk(tree):
            if isinstance(node, ast.FunctionDef):
                found.setdefault(node.name, []).append(node)
            if isinstance(node, ast.ClassDef):
                made = [part for part in node.body
                        if isinstance(part, ast.FunctionDef) and part.name == "__init__"]
                found.setdefault(node.name, []).extend(made)
    return found


def is_root(node):
    """True for an operator and for a property."""
    marks = [mark.id for mark in node.decorator_list if isinstance(mark, ast.Name)]
    return node.name in OPERATORS or "property" in marks


def called_in(node):
    """The names of what a function calls, with True for what stands behind a dot."""
    found = []
    for part in ast.walk(node):
        if isinstance(part, ast.Call) and isinstance(part.func, ast.Attribute):
            if part.func.attr == "__init__":
                found.append((part.func.value.id, False))
            else:
                found.append((part.func.attr, True))
        elif isinstance(part, ast.Call):
            found.append((part.func.id, False))
    return found


def run_by_operators(defined):
    """All that operators and properties call, also through what they call, with what calls it.

    A name stands for everything in the package that has it.
    """
    waiting = [node for nodes in defined.values() for node in nodes if is_root(node)]
    seen = []
    found = []
    while waiting:
        node = waiting.pop()
        if node in seen:
            continue
        seen.append(node)
        for name, dotted in called_in(node):
            found.append((node.name, name, dotted))
            waiting.extend(defined.get(name, []))
    return found


class TestOperators(unittest.TestCase):
    def setUp(self):
        self.trees = [ast.parse(text) for text in sources().values()]
        self.found = run_by_operators(defined_in(self.trees))

    def test_operators_call_no_name_of_an_attribute(self):
        held = attributes_of(self.trees)
        for caller, name, dotted in self.found:
            self.assertFalse(dotted and name in held, f"{caller} calls .{name}")

    def test_operators_call_nothing_that_they_are_passed(self):
        known = set(defined_in(self.trees)) | set(dir(builtins))
        known.update(node.name for tree in self.trees for node in ast.walk(tree)
                     if isinstance(node, ast.ClassDef))
        for caller, name, dotted in self.found:
            self.assertTrue(dotted or name in known, f"{caller} calls {name}")

    def test_what_operators_run_is_found(self):
        self.assertIn(("_find", "number_of", True), self.found)
        self.assertIn("index", attributes_of(self.trees))


if __name__ == "__main__":
    unittest.main()
