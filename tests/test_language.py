"""The interface is defined where it is listed, and the package keeps to the small language that it is written in."""

import ast
import builtins
import inspect
import unittest
import warnings
from importlib import import_module
from pathlib import Path

FOLDER = Path(__file__).resolve().parent.parent / "onestory"

# Own modules stand behind what they import from and ahead of what imports from them.
ORDER = ["errors", "shapes", "tables", "stories", "fine", "smaller", "barren", "counts", "mixed", "ones", "closings",
         "talks", "clocks", "rings", "walks", "homes", "sketches", "search", "every", "dooms", "ways", "memory",
         "screens", "nears", "ties", "hitting", "stamps", "classes", "mixes", "turns", "renamings", "listing",
         "building", "backwards", "telling", "asking", "chances", "fairness", "picks", "scales", "mixtures", "reach",
         "house", "leads", "rebuilding", "texts"]

INTERFACE = {
    "tables": "sendings(sends) delivery(table,sending) changed(table,sending,room,note) ring_table(sizes) "
              "quiet_table(sends,takes) turning_table() Table(sends,takes,notes)",
    "stories": "is_rule(table,room,thing) are_rules(table,thing) answer(table,rules,sending) stories(table,rules) "
               "is_story(table,rules,thing) all_rules(table) rules_for(table,sending)",
    "fine": "part(table,one,other) is_fine(table) first_pair(table) unparted(table) paper(table) is_paper(table,thing)",
    "barren": "two_stories(table) no_story(table) is_two(table,thing) is_none(table,thing)",
    "counts": "story_counts(table) difference(table,rules,sending) differences(table,rules) first_clash(table,rules)",
    "mixed": "are_mixed(table,thing) whole(table,mixed) shares(table,mixed) mean_stories(table,mixed)",
    "ones": "the_story(table,rules) course(table,rules,sending) is_course(table,rules,sending,thing)",
    "closings": "self_pair(table,room) held(table,room,sent) closed(table,room,rule) completed(table,room,rule,rest) "
                "bad_closing(table,room) is_bad_closing(table,room,thing) settled(table,rules,queue) "
                "possible(table,known) sure_notes(table,known) sure_sends(table,known) completion(table,known,rest) "
                "least_known(table,rules,room)",
    "talks": "pair_table(table,one,other,known) hearing(table,one,other,known) bad_pair(table,one,other) "
             "is_bad_pair(table,one,other,thing) heard(table,rules) talk(table,speaker,hearer) "
             "is_talk(table,speaker,hearer,thing) talk_rules(table,speaker,hearer,talk) tellings(table)",
    "clocks": "hears(table) first_rooms(table,held) clock(table) is_clock(table,thing) knots(table) knot(table) "
              "is_knot(table,thing)",
    "rings": "fixed_order(table) is_fixed_order(table,thing) rings(table) lone_rings(table) ring_two(table,ring) "
             "ring_none(table,ring)",
    "walks": "walk(table,rules,sending) is_wheel(table,thing) wheel_rules(table,wheel) spark_table(sparks)",
    "homes": "basin(table,told) is_home_tree(table,thing) home_tree(table) wheel(table)",
    "sketches": "Sketch(sends,takes,notes) sketch_of(table,cells) put(sketch,cell,note) open_cells(sketch) "
                "is_fit(sketch,thing) guessed(sketch,guess) dead_pair(sketch)",
    "ways": "some_fit(sketch) doom(sketch) is_doom(sketch,thing) fits(sketch,most) sure(sketch) crux(sketch) "
            "is_crux(sketch,thing) story_fits(sketch,rules)",
    "screens": "screen(sketch,kept) is_screen(sketch,kept,thing) doom_within(sketch,kept) "
               "is_doom_within(sketch,kept,thing) least_kept(sketch)",
    "nears": "near(table,many) is_near(table,many,thing) far_paper(table,many) is_far_paper(table,many,thing) "
             "distance(table) nearest(table,most)",
    "stamps": "is_stamp(table,thing) lock(table,cells) is_lock(table,cells,thing) other_fit(table,cells) "
              "fewest_stamp(table) stamp(table) stamp_paper(table,many) is_stamp_paper(table,many,thing) needed(table)",
    "classes": "rests(table,room) ties(table,room,one,other) chain(table,room,one,other) "
               "is_chain(table,room,one,other,thing) classes(table,room) class_notes(table,room) "
               "apart(table,room,one,other) is_apart(table,room,one,other,thing)",
    "turns": "turned(table,room,notes) passed(table,turns) is_way(one,other,thing) hushed(table,rooms) "
             "plain_way(one,other) mixed(one,other,mix) fewest_turns(one,other) short_way(one,other) "
             "bar(one,other,number) is_bar(one,other,number,thing)",
    "renamings": "is_renaming(sends,takes,thing) no_renaming(sends,takes) renamed_sizes(sends,takes,renaming) "
                 "renaming_back(sends,takes,renaming) renaming_on(sends,takes,renaming,then) renamed(table,renaming) "
                 "renamed_sending(table,renaming,sending) renamed_rules(table,renaming,rules) "
                 "renamed_paper(table,renaming,paper) keeping_count(sends,takes) renamings(one,other) alike(one,other) "
                 "likes(table) first_like(table)",
    "listing": "layers_of(table,room) layer_classes(layers) room_in(layers,place,take,notes) "
               "wished(layers,place,take,wishes) wish_chain(layers,take,wishes) "
               "is_wished(layers,place,take,wishes,thing) is_wish_chain(layers,take,wishes,thing) "
               "fine_count(sends,takes) fine_tables(sends,takes) kinds(sends,takes)",
    "building": "beside(first,second) pieces(table) piece_tables(table) split(table,room,one,other) glued(table,room) "
                "inside(table,team,rest) replaced(table,team,rest,inner) is_free(table,team,rest) free_teams(table) "
                "breaker(table,team,rest) is_breaker(table,team,rest,thing) nested(table,room,house) "
                "two_doors(table,room,rule)",
    "backwards": "opened(table) is_two_way(table) backwards(table)",
    "telling": "checking_rules(table,sending) is_checking(table,sending,thing) telling_rules(one,other) "
               "is_telling(one,other,thing) same_stories(one,other)",
    "asking": "reply(tables,aim,index,question) settled_lots(tables,aim) asking_tree(tables,aim) "
              "fewest_asked(tables,aim) is_asking_tree(tables,aim,number,thing) asking_ranks(tables,aim,number) "
              "are_asking_ranks(tables,aim,number,thing)",
    "chances": "Chances(sends,takes,weights) blended(blend) odd_ring(rooms) weight(chances,sending,delivery) "
               "cells(chances) story_weights(chances,rules) tally(chances,rules)",
    "fairness": "is_fair(chances) unfair_rules(chances) is_unfair(chances,thing) "
                "signed_sum(chances,lot,heard,one,other) first_odd(chances) self_heard(chances,room) "
                "mean_closed(chances,room,rule)",
    "mixtures": "inside(chances) is_part(chances,thing) is_price_list(chances,thing) share_of(chances,part) "
                "bound_of(chances,prices) fine_share(chances) greatest_part(chances) least_prices(chances) "
                "mixture(chances) is_mixture(chances,thing) led(chances) is_led(chances,thing)",
    "house": "House(table)",
    "leads": "parting(table,one,other) binding_step(table,one,other) is_binding_step(table,one,other,thing) "
             "passage(table,safe,start,goal,most) is_passage(table,safe,start,goal,most,thing) "
             "fence(table,safe,start,goal,most) is_fence(table,safe,start,goal,most,thing) "
             "heights(table,safe,start,goal,most,number) are_heights(table,safe,start,goal,most,number,thing) "
             "fewest_changes(table,safe,start,goal,most) least_most(table,safe,start,goal)",
    "rebuilding": "rebuilding(one,other,safe,start,goal,most) is_rebuilding(one,other,safe,start,goal,most,thing) "
                  "deaf_rooms(table) moat(one,other,safe,start,goal,most) "
                  "is_moat(one,other,safe,start,goal,most,thing)",
    "texts": "house_text(house) read_house(text)",
}

HOUSE = """bind(rules) loosen(rooms) turn(room,notes) guard(safe) undo() redo() log() copy() table() bound() free()
guarded() left() possible() story(sent) sure() heard()""".split()

LIBRARY = {"math": ["gcd", "lcm"], "itertools": ["combinations", "permutations"]}
BUILTINS = """len range enumerate zip min max sum abs sorted reversed int str bool list tuple dict set isinstance
all any ValueError super""".split()
METHODS = """append bit_length copy count extend get index insert items join partition pop remove setdefault
split values __init__""".split()
# No attribute and no own method has the name of a method of the builtin values.
TAKEN = [name for kind in (str, list, dict, tuple, int, bytes, set) for name in vars(kind) if not name.startswith("__")
         and name != "copy"]
STATEMENTS = (ast.FunctionDef, ast.ClassDef, ast.ImportFrom, ast.Assign, ast.AugAssign, ast.If, ast.While, ast.For,
              ast.Return, ast.Raise, ast.Try, ast.Expr, ast.Pass, ast.Break, ast.Continue, ast.Delete)
BARRED = (ast.GeneratorExp, ast.Lambda, ast.Set, ast.SetComp, ast.Starred, ast.Yield, ast.YieldFrom, ast.NamedExpr,
          ast.Await, ast.Div, ast.Pow, ast.Global, ast.Nonlocal)


def modules():
    return {name: ast.parse((FOLDER / f"{name}.py").read_text()) for name in ORDER}


def defined(tree):
    return [node.name for node in tree.body if isinstance(node, (ast.FunctionDef, ast.ClassDef))]


def constants(tree):
    return [node.targets[0].id for node in tree.body if isinstance(node, ast.Assign)]


def imported(tree):
    return [alias.name for node in tree.body if isinstance(node, ast.ImportFrom) for alias in node.names]


def own_methods(tree):
    return [node.name for kind in tree.body if isinstance(kind, ast.ClassDef) for node in kind.body
            if isinstance(node, ast.FunctionDef)]


def bound(tree):
    """All names of parameters, variables, functions and classes."""
    found = [node.id for node in ast.walk(tree) if isinstance(node, ast.Name) and isinstance(node.ctx, ast.Store)]
    found += [node.arg for node in ast.walk(tree) if isinstance(node, ast.arg)]
    return found + [node.name for node in ast.walk(tree) if isinstance(node, (ast.FunctionDef, ast.ClassDef))]


def is_lazy(node):
    """Whether it is a call of what is iterated at once: it is neither stored nor passed on."""
    if not isinstance(node, ast.Call):
        return False
    if isinstance(node.func, ast.Attribute):
        return node.func.attr in ("items", "keys", "values")
    return getattr(node.func, "id", "") in ("range", "zip", "enumerate", "reversed")


def passed_to(tree, words):
    """All that is passed to the functions of these names."""
    return [given for node in ast.walk(tree) if isinstance(node, ast.Call) and getattr(node.func, "id", "") in words
            for given in node.args]


class Interface(unittest.TestCase):
    def test_names_and_parameters(self):
        for name, listed in INTERFACE.items():
            module = import_module(f"onestory.{name}")
            for call in listed.split():
                word, _, rest = call.partition("(")
                found = getattr(module, word)
                self.assertEqual(found.__module__, f"onestory.{name}")
                self.assertEqual([given for given in rest.rstrip(")").split(",") if given],
                                 list(inspect.signature(found).parameters), call)

    def test_defined_in_the_file_that_lists_them(self):
        trees = modules()
        for name, listed in INTERFACE.items():
            for call in listed.split():
                self.assertEqual(defined(trees[name]).count(call.partition("(")[0]), 1)

    def test_equality_stands_in_the_class_itself(self):
        self.assertIn("__eq__", vars(import_module("onestory.tables").Table))
        self.assertIn("__eq__", vars(import_module("onestory.sketches").Sketch))
        self.assertIn("__eq__", vars(import_module("onestory.chances").Chances))

    def test_methods_of_a_house_stand_in_the_class_itself(self):
        house = import_module("onestory.house").House
        for call in HOUSE:
            word, _, rest = call.partition("(")
            self.assertEqual(["self"] + [given for given in rest.rstrip(")").split(",") if given],
                             list(inspect.signature(vars(house)[word]).parameters), call)
        self.assertIn("__eq__", vars(house))
        self.assertIn("__len__", vars(house))

    def test_the_package_itself_defines_nothing(self):
        self.assertEqual(ast.parse((FOLDER / "__init__.py").read_text()).body, [])


class Files(unittest.TestCase):
    def test_the_folder_contains_the_modules_alone(self):
        found = [path.name for path in FOLDER.iterdir() if path.name != "__pycache__"]
        self.assertEqual(sorted(found), sorted([f"{name}.py" for name in ORDER] + ["__init__.py"]))

    def test_sizes_and_characters(self):
        for name in ORDER:
            text = (FOLDER / f"{name}.py").read_text()
            self.assertTrue(all(sign == "\n" or " " <= sign <= "~" for sign in text), name)
            self.assertLessEqual(len(text.splitlines()), 399)
            self.assertLessEqual(max(len(line) for line in text.splitlines()), 120, name)
            for node in ast.walk(ast.parse(text)):
                if isinstance(node, ast.FunctionDef):
                    self.assertLessEqual(node.end_lineno - node.lineno + 1, 40, node.name)

    def test_no_warnings(self):
        with warnings.catch_warnings():
            warnings.simplefilter("error")
            for name in ORDER:
                compile((FOLDER / f"{name}.py").read_text(), name, "exec")


class Imports(unittest.TestCase):
    def test_only_from_modules_named_before(self):
        trees = modules()
        for at, name in enumerate(ORDER):
            for node in ast.walk(trees[name]):
                self.assertNotIsInstance(node, ast.Import)
                if not isinstance(node, ast.ImportFrom):
                    continue
                self.assertIn(node, trees[name].body)
                self.assertEqual([alias.asname for alias in node.names], [None] * len(node.names))
                names = [alias.name for alias in node.names]
                if node.module in LIBRARY:
                    self.assertTrue(set(names) <= set(LIBRARY[node.module]))
                    continue
                package, _, module = node.module.partition(".")
                self.assertEqual((package, node.level), ("onestory", 0))
                self.assertIn(module, ORDER[:at])
                self.assertTrue(set(names) <= set(defined(trees[module]) + constants(trees[module])), (name, names))

    def test_each_import_is_used_and_its_name_is_free(self):
        for name, tree in modules().items():
            used = [node.id for node in ast.walk(tree) if isinstance(node, ast.Name)]
            for word in imported(tree):
                self.assertTrue(word in used, (name, word))
                self.assertNotIn(word, bound(tree), name)

    def test_each_name_is_bound_once_at_module_level(self):
        for tree in modules().values():
            names = imported(tree) + defined(tree)
            names += constants(tree)
            self.assertEqual(sorted(names), sorted(set(names)))


class Words(unittest.TestCase):
    def test_module_level(self):
        for tree in modules().values():
            for at, node in enumerate(tree.body):
                if isinstance(node, ast.Expr):
                    self.assertTrue(at == 0 and isinstance(node.value.value, str))
                elif isinstance(node, ast.Assign):
                    self.assertIsInstance(node.value, ast.Constant)
                else:
                    self.assertIsInstance(node, (ast.ImportFrom, ast.FunctionDef, ast.ClassDef))

    def test_statements_and_expressions(self):
        for name, tree in modules().items():
            for node in ast.walk(tree):
                if isinstance(node, ast.stmt):
                    self.assertIsInstance(node, STATEMENTS, (name, node.lineno))
                self.assertNotIsInstance(node, BARRED, name)
                self.assertEqual(getattr(node, "decorator_list", []), [])
                if isinstance(node, ast.Constant):
                    self.assertNotIsInstance(node.value, (float, complex, bytes))
                    self.assertFalse(isinstance(node.value, str) and "%" in node.value)

    def test_only_some_builtins_and_methods(self):
        trees = modules()
        methods = METHODS + [name for tree in trees.values() for name in own_methods(tree)]
        for name, tree in trees.items():
            own = bound(tree) + imported(tree)
            for node in ast.walk(tree):
                if isinstance(node, ast.Name) and node.id not in own:
                    self.assertIn(node.id, BUILTINS, name)
                if isinstance(node, ast.Call) and isinstance(node.func, ast.Attribute):
                    self.assertIn(node.func.attr, methods, name)

    def test_no_name_of_a_builtin_is_given_another_meaning(self):
        for name, tree in modules().items():
            for word in bound(tree):
                self.assertNotIn(word, vars(builtins), name)
                self.assertRegex(word, "^(_|[A-Za-z][A-Za-z0-9_]*|__init__|__eq__|__len__)$")

    def test_names_of_methods_and_attributes(self):
        trees = modules()
        methods = [name for tree in trees.values() for name in own_methods(tree) if not name.startswith("__")]
        assigned = [node.attr for tree in trees.values() for node in ast.walk(tree)
                    if isinstance(node, ast.Attribute) and isinstance(node.ctx, ast.Store)]
        for name in methods + assigned:
            self.assertNotIn(name, TAKEN)
        self.assertFalse(set(methods) & set(assigned))

    def test_sets_are_made_in_place_only(self):
        for name, tree in modules().items():
            inside = [node.args[0] for node in ast.walk(tree) if isinstance(node, ast.Call)
                      and isinstance(node.func, ast.Name) and node.func.id in ("len", "sorted")]
            for node in ast.walk(tree):
                if isinstance(node, ast.Call) and isinstance(node.func, ast.Name) and node.func.id == "set":
                    self.assertIn(node, inside, name)

    def test_ranges_and_views_are_iterated_on_the_spot(self):
        takers = "list tuple dict sorted sum any all enumerate zip min max".split()
        for name, tree in modules().items():
            at_once = [node.iter for node in ast.walk(tree) if isinstance(node, (ast.For, ast.comprehension))]
            at_once += passed_to(tree, takers)
            # A range that is kept is neither looked into by these, nor stored again.
            at_once += [node for node in passed_to(tree, LIBRARY["itertools"]) if is_lazy(node)]
            at_once += [node.comparators[0] for node in ast.walk(tree) if isinstance(node, ast.Compare)
                        and isinstance(node.ops[0], (ast.In, ast.NotIn))]
            kept = [node for node in ast.walk(tree) if isinstance(node, ast.Assign) and is_lazy(node.value)]
            for node in kept:
                self.assertTrue(node.value.func.id == "range" and isinstance(node.targets[0], ast.Name), name)
            for node in ast.walk(tree):
                if is_lazy(node):
                    self.assertTrue(node in at_once + [step.value for step in kept], (name, node.lineno))
            for step in [node for node in ast.walk(tree) if isinstance(node, ast.FunctionDef)]:
                words = [node.targets[0].id for node in ast.walk(step) if node in kept]
                for node in ast.walk(step):
                    if isinstance(node, ast.Name) and isinstance(node.ctx, ast.Load) and node.id in words:
                        self.assertTrue(node in at_once, (name, node.lineno))

    def test_combinations_are_iterated_on_the_spot(self):
        for name, tree in modules().items():
            at_once = [node.iter for node in ast.walk(tree) if isinstance(node, (ast.For, ast.comprehension))]
            at_once += [node.args[0] for node in ast.walk(tree) if isinstance(node, ast.Call) and node.args
                        and isinstance(node.func, ast.Name) and node.func.id in ("list", "tuple", "sorted")]
            for node in ast.walk(tree):
                if isinstance(node, ast.Call) and getattr(node.func, "id", "") in ("combinations", "permutations"):
                    self.assertTrue(node in at_once, (name, node.lineno))
                    first = node.args[0]
                    self.assertTrue(isinstance(first, ast.Name) or first.func.id == "range", (name, node.lineno))

    def test_no_class_has_the_name_of_a_variable(self):
        for tree in modules().values():
            classes = [node.name for node in ast.walk(tree) if isinstance(node, ast.ClassDef)]
            self.assertFalse(set(classes) & {node.arg for node in ast.walk(tree) if isinstance(node, ast.arg)})
