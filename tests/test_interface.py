"""The interface: each name in its file, with the parameters that the document shows."""

import ast
import importlib
import inspect
import pathlib
import unittest

import underwraps

FUNCTIONS = {
    "books": {
        "is_permit": "roles labels thing", "is_start": "book thing", "is_less": "book other",
        "without": "book permits", "called": "book names", "start_called": "book start names", "used_roles": "book",
    },
    "houses": {"is_call": "book thing"},
    "things": {
        "is_key": "book thing", "is_thing": "book thing", "next_key": "book key label",
        "is_behind": "book key thing", "depth_of": "book thing", "keys_in": "book thing", "knows": "book things thing",
    },
    "ways": {"way_fault": "book things thing way", "way_to": "book things thing"},
    "chests": {
        "gist": "book things", "counts": "book chest thing", "chest_fault": "book things chest",
        "enough_keys": "book things thing",
    },
    "logs": {
        "log_fault": "book start thing", "played": "book start log", "log_answers": "book start log",
        "log_tells": "book start log key", "permits_used": "book start log", "left_out": "book start log index",
        "thinned_log": "book start log key", "log_behind": "book start log other", "log_rounds": "book start log",
        "in_rounds": "book start log",
    },
    "states": {
        "states_of": "book", "moves_of": "book", "roots_of": "book start", "first_states": "book start root",
        "is_asked": "book start thing",
    },
    "leading": {"leads_to": "book start ties asked", "pairs_of": "book start ties"},
    "bunches": {"bunches_of": "book start ties", "least_key": "book start ties states"},
    "ties": {"ties_closed": "book ties", "ties_thinned": "book ties"},
    "machines": {
        "machine_wants": "book start machine", "machine_lack": "book start machine", "is_closed": "book start thing",
        "least_machine": "book start", "grown": "book start machine", "machines_met": "book machine second",
    },
    "strays": {"strays": "book start ties house"},
    "proofs": {
        "proof_fault": "book start asked state thing", "is_proof": "book start asked state thing",
        "row_says": "book start rows index", "told_proof": "book start asked state",
    },
    "verdicts": {
        "is_bringing": "book start asked state thing", "is_never": "book start asked state thing",
        "verdict": "book start asked state", "judged": "book start asked state thing",
    },
    "settling": {"settled": "book start questions", "reach": "book start asked", "brought_along": "book start"},
    "prooflogs": {"log_of_proof": "book start asked state proof", "telling_log": "book start asked"},
    "leanlogs": {"is_lean": "book start thing", "led_over": "book start log"},
    "ledlogs": {"led_by": "book start first log table"},
    "tables": {
        "is_table": "book thing", "table_row": "book table word", "least_table": "book start root",
        "road_to": "book table row", "parting_word": "book table row mate",
    },
    "outwords": {
        "first_words": "book start root many", "count_out": "book start root many", "count_first": "book start root many",
        "all_first": "book start root", "kind_of": "book start asked", "shortest_out": "book start asked",
        "parted_behind": "book start asked mate",
    },
    "groups": {
        "groups": "book start root", "group_table": "book start", "group_fault": "book start thing",
        "keeps_apart": "book start root states thing",
    },
    "togethers": {"together": "book start root states", "wrapping": "book start role"},
    "tiers": {
        "tiers_fault": "book start thing", "is_tiering": "book start thing", "finest_tiering": "book start", "safe_roles": "book start",
    },
    "levels": {
        "is_levels": "book start thing", "least_levels": "book start", "is_bar": "book start thing", "shortest_bar": "book start",
    },
    "several": {"houses_fault": "books starts thing"},
    "joining": {"joined": "books starts", "joined_log": "books starts log", "parted_log": "books starts log"},
    "sharing": {"apart": "books starts some", "sharings": "books starts house asked"},
    "lots": {
        "is_idle": "book start permit", "idle_permits": "book start", "thinned_book": "book start", "is_kept": "book start secrets",
        "telling_lots": "book start secrets", "keeping_lots": "book start secrets", "is_telling_lot": "book start secrets thing",
        "is_keeping_lot": "book start secrets thing", "least_meeting": "book lots", "lots_fault": "book start secrets thing",
        "guards": "book start secrets",
    },
    "lotprices": {
        "cheapest_lot": "book start secrets prices", "is_barring": "book start secrets prices price thing",
        "barring_tree": "book start secrets prices",
    },
    "twobooks": {
        "first_more": "book second start", "parting_key": "book second start", "compared": "book second start",
        "paired_rows": "book second start root", "is_cover": "book second start thing", "parting": "book second start",
        "is_parting": "book second start thing", "both_books": "book second", "only_together": "book second start",
    },
    "toldkeys": {
        "told_book": "book start lot role", "falls_running": "book start lot asked", "felling_keys": "book start asked", "heads": "book start",
    },
    "shuthouses": {
        "known_shut": "book start log lot thing", "fallen_handles": "book start log lot", "falls_shut": "book start lot asked",
        "beneath": "book start lot", "shelter": "book start lot asked", "is_shelter": "book start lot asked thing",
    },
    "felling": {"felling_log": "book start lot asked"},
    "custodies": {"is_custody": "book thing", "custodians": "book custody"},
    "custodylogs": {"custody_fault": "book start custody tellers thing", "custody_played": "book start custody tellers log"},
    "custodymachines": {
        "custody_leads": "book start custody tellers ties asked", "custody_lack": "book start custody tellers machine",
        "custody_machine": "book start custody tellers",
    },
    "custodyverdicts": {
        "custody_verdict": "book start custody tellers asked state", "custody_judged": "book start custody tellers asked state thing",
    },
    "tellers": {"least_tellers": "book start custody asked", "least_loyal": "book start custody asked"},
    "booktexts": {"book_text": "book", "read_book": "text", "book_text_fault": "text"},
    "starttexts": {"start_text": "book start", "read_start": "book text", "start_text_fault": "book text"},
    "thingtexts": {"thing_text": "book thing", "read_thing": "book text", "thing_text_fault": "book text"},
    "logtexts": {"log_text": "book log", "read_log": "book text", "log_text_fault": "book text"},
    "machinetexts": {"machine_text": "book machine", "read_machine": "book text", "machine_text_fault": "book text"},
    "ranks": {"machine_ranks": "book start", "ranks_fault": "book start thing", "asked_rank": "book start asked state"},
}
CLASSES = {
    "books": ("Book", {
        "__init__": "self roles labels permits", "all_roles": "self", "all_labels": "self", "all_permits": "self",
        "__eq__": "self other",
    }),
    "houses": ("House", {
        "__init__": "self book start", "handles": "self", "out": "self", "book": "self", "start": "self",
        "copy": "self", "call": "self call", "__eq__": "self other",
    }),
    "several": ("Houses", {
        "__init__": "self books starts", "call": "self house call", "handles": "self house", "out": "self", "copy": "self",
        "__eq__": "self other",
    }),
    "desks": ("Desk", {
        "__init__": "self roles labels", "allow": "self permit", "forbid": "self permit", "give": "self some", "guard": "self asked",
        "free": "self asked", "now": "self", "guarded": "self", "would": "self permit", "undo": "self", "redo": "self", "copy": "self",
        "__eq__": "self other",
    }),
}
PACKAGE = pathlib.Path(underwraps.__file__).parent


def tree_of(name):
    return ast.parse((PACKAGE / (name + ".py")).read_text())


class TestInterface(unittest.TestCase):
    def test_functions(self):
        for name, functions in FUNCTIONS.items():
            module = importlib.import_module("underwraps." + name)
            defined = [node.name for node in tree_of(name).body if isinstance(node, ast.FunctionDef)]
            for function, parameters in functions.items():
                self.assertIn(function, defined)
                self.assertEqual(list(inspect.signature(getattr(module, function)).parameters), parameters.split())

    def test_classes(self):
        for name, (word, methods) in CLASSES.items():
            module = importlib.import_module("underwraps." + name)
            defined = [node.name for node in tree_of(name).body if isinstance(node, ast.ClassDef)]
            self.assertIn(word, defined)
            for method, parameters in methods.items():
                found = vars(getattr(module, word))[method]
                self.assertEqual(list(inspect.signature(found).parameters), parameters.split())

    def test_ranges_and_views_are_iterated_on_the_spot(self):
        makers, views = ("range", "zip", "enumerate", "reversed"), ("items", "keys", "values")
        takers = ("list", "tuple", "dict", "sorted", "sum", "any", "all", "enumerate", "zip", "min", "max", "reversed")
        for path in PACKAGE.glob("*.py"):
            tree = ast.parse(path.read_text())
            spots = [node.iter for node in ast.walk(tree) if isinstance(node, (ast.For, ast.comprehension))]
            for node in ast.walk(tree):
                if isinstance(node, ast.Call) and isinstance(node.func, ast.Name) and node.func.id in takers:
                    spots += node.args if node.func.id == "zip" else node.args[:1]
            for node in ast.walk(tree):
                if isinstance(node, ast.Call):
                    word = getattr(node.func, "id", None) in makers or (getattr(node.func, "attr", None) in views and not node.args)
                    self.assertTrue(not word or node in spots, (path.name, node.lineno))

    def test_sizes(self):
        for path in PACKAGE.glob("*.py"):
            lines = path.read_text().splitlines()
            self.assertLessEqual(len(lines), 399, path.name)
            self.assertLessEqual(max([len(line) for line in lines]), 120, path.name)
            for node in ast.walk(ast.parse(path.read_text())):
                if isinstance(node, ast.FunctionDef):
                    self.assertLessEqual(node.end_lineno - node.lineno + 1, 40, node.name)
