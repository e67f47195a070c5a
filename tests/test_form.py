"""The form of the package's files: what ../shared/LANGUAGE.md asks and a program can see."""

import ast
import builtins
import importlib
import inspect
import os
import unittest

FOLDER = os.path.join(os.path.dirname(os.path.dirname(os.path.abspath(__file__))), "citylines")

INTERFACE = {
    "basics": ["is_integer(value)", "is_count(value)", "is_minute(value)", "clock_text(minute)", "clock_of(text)"],
    "cities": [
        "is_city(value)", "is_way_table(value)", "is_closed(value)", "closed(table)", "change_between(city, one, other)",
        "walk_between(city, one, other)", "drive_between(city, one, other)",
    ],
    "lines": ["is_line(city, value)", "are_lines(city, value)", "least_between(line, first, last)"],
    "trips": [
        "are_trips(city, lines, value)", "told_departure(trip, hop)", "told_arrival(lines, trip, hop)",
        "slacks(lines, trip)", "trip_ahead(trips, trip)", "beat(city, lines, line, first, every, many)",
        "joined_trips(city, lines, trips, other)",
    ],
    "blocks": [
        "is_block(city, lines, trips, value)", "are_blocks(city, lines, trips, value)", "block_place(blocks, trip)",
        "first_level(block)", "lack(block, place, level)", "ready(block, place, level, arrival)",
        "charged(block, place, level, arrival, departure)", "levels(block, times)",
    ],
    "duties": [
        "is_duty(city, lines, trips, value)", "are_duties(city, lines, trips, value)", "duty_place(duties, trip, hop)",
        "duty_rides(duty)", "there(duty, place, arrival)", "stretches(duty)", "spans(duty, times)",
    ],
    "meets": [
        "is_meet(city, lines, trips, value)", "are_meets(city, lines, trips, value)", "is_feed(value)",
        "soonest(feed, minute)", "asks(feed, minute)", "quiet(feed)", "is_made(feed, departure)", "leaves(minute, feeds)",
        "in_vain(minute, feeds)",
    ],
    "plans": [
        "is_plan(value)", "unsound(value)", "rides(plan)", "ride_at(plan, trip, hop)", "with_budget(plan, many)",
        "with_part(plan, word, value)", "beside(plan, other)",
    ],
    "days": ["is_course(plan, value)", "day(plan, course)", "told_day(plan)", "reasons(plan, course, ride)"],
    "fields": [
        "fields(plan, many)", "first_standing(plan)", "standing(plan, course, many)", "step(plan, many, standing, delay)",
    ],
    "books": ["reached(plan)", "book(plan)", "is_book(plan, value)"],
    "courses": ["least_course(plan)", "is_breaking(plan, value)", "breakable(plan)", "greatest_late(plan, ride)"],
    "leasts": ["least_book(plan)", "are_alike(plan, other)", "parting_course(plan, other)"],
    "signs": [
        "moment(plan, course, many)", "window(plan, course, many, ride)", "said(plan, course, many, ride, word)",
        "news(plan, course, ride)", "late_news(plan, ride, notice)", "misled(plan, ride)",
        "is_misleading(plan, ride, word, notice, value)", "sign_book(plan, ride, word, notice)",
        "is_sign_book(plan, ride, word, notice, value)",
    ],
    "riders": [
        "is_way(plan, value)", "arrival(plan, course, way)", "places(plan, course, way)", "ridden(plan, course, way)",
        "surely_by(plan, way)", "late_course(plan, way, minute)", "is_late_course(plan, way, minute, value)",
        "sure_book(plan, way, minute)", "is_sure_book(plan, way, minute, value)",
    ],
    "profiles": [
        "staircase(plan, stop, goal)", "earliest(plan, stop, goal, minute)", "quick_way(plan, stop, goal, minute)",
        "staircases(plan)", "are_staircases(plan, value)", "are_same_for_riders(plan, other)",
        "parting_rider(plan, other)", "is_parting_rider(plan, other, value)",
    ],
    "remedies": [
        "is_run(plan, ride)", "run_hops(plan)", "waits(plan)", "gone(plan)", "is_remedy(plan, value)",
        "after(plan, remedy)", "heard_more(plan, counts)", "judged(plan)", "weighed(plan, remedy)",
        "waits_that_keep(plan, meet)",
    ],
    "spares": [
        "spares_that_keep(plan)", "leads(city, lines, trips, turn, one, other)", "fewest_blocks(city, lines, trips, turn)",
        "is_chains(city, lines, trips, turn, value)", "is_apart(city, lines, trips, turn, value)",
    ],
    "tickets": [
        "is_ticket(value)", "is_passage(value)", "is_cover(tickets, passages, value)", "cheapest(tickets, passages)",
        "cheapest_cover(tickets, passages)", "price_table(tickets, passages)",
        "is_price_table(tickets, passages, value)", "charges(tickets, passages)",
    ],
    "taps": [
        "is_travel(plan, value)", "told_passage(plan, travel)", "true_passage(plan, course, travel)",
        "do_go(plan, course, travels)", "taps_of(plan, course, travels)", "fitting(plan, course, taps)",
        "charge(plan, course, tickets, taps)", "is_account(plan, value)", "bill(plan, course, account)",
        "refund(plan, course, account)", "first_free(plan, course, travels)",
    ],
    "texts": ["plan_text(plan)", "plan_of(text)", "way_text(plan, way)", "way_of(plan, text)"],
    "claims": [
        "words()", "is_claim(value)", "contrary(claim)", "is_true(claim)", "paper_of(claim)", "is_paper_of(claim, value)",
    ],
    "commands": ["is_name(value)", "is_command(value)", "is_deed(value)"],
    "desk": ["tried(desk, action)"],
}

# The classes of the interface, with their methods as they are called off an object (`again` off the class).
CLASSES = {
    ("desk", "Desk"): [
        "do(command)", "do_all(*commands)", "attempt(*commands)", "attach(label, paper)", "fits(label)", "lines()", "copy()",
        "again(lines)", "claim_of(label)", "__call__(command)", "__len__()",
    ],
    ("desk", "Trial"): ["__enter__()", "__exit__(kind, value, trace)"],
}

BUILTINS = """
len range enumerate zip min max sum abs sorted reversed int str bool list tuple dict set isinstance ord repr any all divmod
Exception ValueError TypeError KeyError IndexError LookupError ZeroDivisionError ArithmeticError OverflowError RuntimeError
NotImplementedError
""".split()

# A doctest that has run leaves an underscore there.
OF_PYTHON = [name for name in dir(builtins) if name != "_"]

NOT_NAMES = """
mro elements open input law version_info with_traceback add_note register attrgetter breakpoint builtins compile copyright
credits delattr dir eval exec exit gc getattr globals hasattr help id importlib license locals methodcaller os quit setattr
super type vars sys typing enum
""".split()

METHODS = """
append clear copy count endswith extend find get index insert isalnum isalpha isdigit islower isspace isupper items join keys
ljust lower lstrip partition pop remove replace reverse rfind rjust rpartition rsplit rstrip setdefault split splitlines
startswith strip update upper values zfill
""".split()

AT_THE_TOP = (ast.ImportFrom, ast.FunctionDef, ast.ClassDef, ast.Assign)

NEVER = (
    ast.AsyncFunctionDef, ast.AsyncFor, ast.AsyncWith, ast.Await, ast.Import, ast.Div, ast.Global, ast.AnnAssign,
    ast.GeneratorExp, ast.Yield, ast.YieldFrom,
)


def files():
    return sorted(name for name in os.listdir(FOLDER) if name != "__pycache__")


def text_of(name):
    with open(os.path.join(FOLDER, name), encoding="utf-8", newline="") as file:
        return file.read()


def tree_of(name):
    return ast.parse(text_of(name))


def own_methods():
    """The names of all methods that the package defines; none of them is the name of an attribute, too."""
    names = []
    for name in files():
        for made in ast.walk(tree_of(name)):
            if isinstance(made, ast.ClassDef):
                names.extend(node.name for node in made.body if isinstance(node, ast.FunctionDef))
    return names


def bound_in(function):
    """The names that a function binds: its parameters and all that it assigns."""
    names = [argument.arg for argument in function.args.args]
    if function.args.vararg is not None:
        names.append(function.args.vararg.arg)
    for node in ast.walk(function):
        if isinstance(node, ast.Lambda):
            names.extend(argument.arg for argument in node.args.args)
        if isinstance(node, ast.Name) and not isinstance(node.ctx, ast.Load):
            names.append(node.id)
        if isinstance(node, ast.ExceptHandler) and node.name:
            names.append(node.name)
    return names


def bound_at_top(tree):
    """For each name that a file binds at its top, the node that binds it."""
    names = []
    for node in tree.body:
        if isinstance(node, (ast.FunctionDef, ast.ClassDef)):
            names.append((node.name, node))
        if isinstance(node, ast.ImportFrom):
            names.extend((alias.name, node) for alias in node.names)
        if isinstance(node, ast.Assign):
            names.append((node.targets[0].id, node))
    return names


class Form(unittest.TestCase):
    def test_files(self):
        self.assertIn("__init__.py", files())
        for name in files():
            self.assertTrue(name.endswith(".py"), name)
            self.assertEqual(name, name.lower())
        self.assertLessEqual(len(files()), 100)
        self.assertEqual(1, len(tree_of("__init__.py").body))

    def test_sizes_and_characters(self):
        for name in files():
            lines = text_of(name).split("\n")
            self.assertLessEqual(len(lines) - 1, 399, name)
            self.assertEqual("", lines[-1], name)
            for line in lines:
                self.assertLessEqual(len(line), 120, name)
                self.assertTrue(all(" " <= sign <= "~" for sign in line), (name, line))
                self.assertEqual(line.rstrip(), line, name)
            for node in ast.walk(tree_of(name)):
                if isinstance(node, ast.FunctionDef):
                    self.assertLessEqual(node.end_lineno - node.lineno + 1, 40, (name, node.name))

    def test_what_stands_at_the_top(self):
        for name in files():
            body = tree_of(name).body
            self.assertIsInstance(body[0].value.value, str, name)
            for node in body[1:]:
                self.assertIsInstance(node, AT_THE_TOP, name)
                if isinstance(node, ast.Assign):
                    self.assertEqual(1, len(node.targets))
                    self.assertIsInstance(node.targets[0], ast.Name)
                    self.assert_value(name, node)
            names = [bound for bound, _ in bound_at_top(tree_of(name))]
            self.assertEqual(len(set(names)), len(names), name)

    def assert_value(self, name, node):
        """What a name at the top is given: a literal, or a dict of functions defined above, in the same file."""
        if not isinstance(node.value, ast.Dict) or not isinstance(node.value.values[0], ast.Name):
            ast.literal_eval(node.value)
            return
        above = [row.name for row in tree_of(name).body if isinstance(row, ast.FunctionDef) and row.lineno < node.lineno]
        for key, value in zip(node.value.keys, node.value.values):
            self.assertIsInstance(key.value, str)
            self.assertIn(value.id, above, name)

    def test_lists_and_dicts_at_the_top_are_read_alone(self):
        """They are indexed, asked for, and iterated over; nothing else happens to them."""
        for name in files():
            tree = tree_of(name)
            kept = [node.targets[0].id for node in tree.body if isinstance(node, ast.Assign) and isinstance(node.value, (ast.List, ast.Dict))]
            told = []
            for node in ast.walk(tree):
                if isinstance(node, ast.Subscript) and isinstance(node.ctx, ast.Load):
                    told.append(node.value)
                if isinstance(node, ast.Compare) and isinstance(node.ops[0], (ast.In, ast.NotIn)):
                    told.extend(node.comparators)
                if isinstance(node, ast.Attribute) and node.attr == "get":
                    told.append(node.value)
            for node in ast.walk(tree):
                if isinstance(node, ast.Name) and isinstance(node.ctx, ast.Load) and node.id in kept:
                    self.assertIn(node, told, (name, node.id, node.lineno))
            for node in ast.walk(tree):
                if isinstance(node, ast.ImportFrom):
                    self.assertFalse(set(alias.name for alias in node.names) & {"EDITS", "ANSWERS", "MAKERS", "JUDGES"})
                if isinstance(node, ast.Call) and isinstance(node.func, ast.Subscript):
                    self.fail((name, node.lineno))

    def test_imports_name_the_file_that_defines_and_make_no_circle(self):
        wants = {}
        for name in files():
            wants[name] = []
            for node in ast.walk(tree_of(name)):
                if isinstance(node, ast.ImportFrom):
                    package, _, module = node.module.partition(".")
                    self.assertEqual(("citylines", 0), (package, node.level), name)
                    defines = dict(bound_at_top(tree_of(module + ".py")))
                    for alias in node.names:
                        self.assertIsNone(alias.asname)
                        self.assertNotIsInstance(defines[alias.name], ast.ImportFrom, (name, alias.name))
                    wants[name].append(module + ".py")
        while wants:
            free = [name for name in wants if not any(other in wants for other in wants[name])]
            self.assertTrue(free, wants)
            for name in free:
                del wants[name]

    def test_statements_and_values(self):
        for name in files():
            for node in ast.walk(tree_of(name)):
                self.assertNotIsInstance(node, NEVER, name)
                if isinstance(node, ast.Constant):
                    self.assertNotIsInstance(node.value, (float, complex, bytes), name)
                    self.assertFalse(isinstance(node.value, str) and "%" in node.value, name)
                if isinstance(node, ast.FunctionDef):
                    decorators = [own.id for own in node.decorator_list]
                    self.assertIn(decorators, ([], ["property"], ["classmethod"]), name)
                    self.assertIsNone(node.returns)
                if isinstance(node, ast.Call) and isinstance(node.func, ast.Attribute):
                    self.assertIn(node.func.attr, METHODS + own_methods(), name)
                if isinstance(node, ast.Compare) and any(isinstance(sign, (ast.Is, ast.IsNot)) for sign in node.ops):
                    self.assertIn(ast.unparse(node.comparators[0]), ("None", "True", "False"))

    def test_names(self):
        own = set()
        for name in files():
            tree = tree_of(name)
            top = dict(bound_at_top(tree))
            own.update(top)
            barred = [bound for bound, node in top.items() if isinstance(node, (ast.ClassDef, ast.ImportFrom))]
            for function in [node for node in ast.walk(tree) if isinstance(node, ast.FunctionDef)]:
                bound = bound_in(function)
                for word in bound:
                    self.assertNotIn(word, barred, (name, function.name))
                    self.assertNotIn(word, OF_PYTHON, (name, function.name))
                for node in ast.walk(function):
                    if isinstance(node, ast.Name) and isinstance(node.ctx, ast.Load) and node not in function.decorator_list:
                        self.assertNotEqual("_", node.id, (name, function.name))
                        known = node.id in bound or node.id in top or node.id in BUILTINS
                        self.assertTrue(known, (name, function.name, node.id))
            for node in ast.walk(tree):
                words = [getattr(node, field, None) for field in ("id", "attr", "name", "arg")]
                for word in words:
                    self.assertNotIn(word, NOT_NAMES, name)
        for word in own:
            self.assertNotIn(word, OF_PYTHON)

    def test_attributes(self):
        stored, methods = set(), {word for word in own_methods() if not word.startswith("__")}
        for name in files():
            for node in ast.walk(tree_of(name)):
                if isinstance(node, ast.Attribute) and not isinstance(node.ctx, ast.Load):
                    stored.add(node.attr)
        for word in stored | methods:
            for kind in (int, str, list, tuple, dict, set, bytes):
                self.assertFalse(hasattr(kind, word) and word not in ("count", "index", "copy"), word)
        self.assertFalse(stored & methods)
        for name in files():
            for node in ast.walk(tree_of(name)):
                if isinstance(node, ast.Attribute) and isinstance(node.ctx, ast.Load) and node.attr not in METHODS:
                    self.assertIn(node.attr, stored | methods, name)

    def test_no_import_is_idle(self):
        for name in files():
            tree = tree_of(name)
            used = {node.id for node in ast.walk(tree) if isinstance(node, ast.Name)}
            for word, node in bound_at_top(tree):
                if isinstance(node, ast.ImportFrom):
                    self.assertIn(word, used, name)


class Interface(unittest.TestCase):
    def test_names_and_parameters(self):
        for module, functions in INTERFACE.items():
            held = importlib.import_module("citylines." + module)
            for told in functions:
                name, _, parameters = told.strip(")").partition("(")
                function = getattr(held, name)
                self.assertEqual("citylines." + module, function.__module__)
                self.assertEqual([word for word in parameters.split(", ") if word], list(inspect.signature(function).parameters), told)
                for parameter in inspect.signature(function).parameters.values():
                    self.assertIs(parameter.default, inspect.Parameter.empty)

    def test_classes_and_their_methods(self):
        for (module, title), methods in CLASSES.items():
            kind = getattr(importlib.import_module("citylines." + module), title)
            self.assertEqual("citylines." + module, kind.__module__)
            for told in methods:
                name, _, parameters = told.strip(")").partition("(")
                # In the body of the class itself.
                self.assertIn(name, vars(kind))
                signature = inspect.signature(getattr(kind if name == "again" else object.__new__(kind), name))
                self.assertEqual([word for word in parameters.split(", ") if word], [str(own) for own in signature.parameters.values()])
        for name in ("names", "labels"):
            self.assertIsInstance(vars(importlib.import_module("citylines.desk").Desk)[name], property)
        self.assertEqual([], list(inspect.signature(importlib.import_module("citylines.desk").Desk).parameters))
        self.assertEqual(["desk"], list(inspect.signature(importlib.import_module("citylines.desk").Trial).parameters))

    def test_no_class_has_a_word_that_operators_bar(self):
        for name in files():
            self.assertFalse(any(word in text_of(name) for word in ("(type)", "Meta", "metaclass=")), name)
            for node in ast.walk(tree_of(name)):
                if isinstance(node, ast.Attribute):
                    self.assertNotIn(node.attr, ("keys", "sort"), name)
                if isinstance(node, ast.Call) and isinstance(node.func, ast.Name) and node.func.id == "reversed":
                    self.assertIn(ast.unparse(node.args[0]).partition("(")[0], ("range", "list", "tuple", "sorted"), name)


if __name__ == "__main__":
    unittest.main()
