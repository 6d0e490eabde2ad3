"""The interface: names, files, parameters, and the kinds of results."""

import importlib
import inspect
import unittest

from allshelves.benches import Bench
from allshelves.errors import BadEvent
from allshelves.houses import begun, fallen, new_house
from allshelves.protocols import known
from allshelves.standings import first_standing
from allshelves.stores import falls, fired, new_store, opened
from helpers import Checks, values_of_any_kind

FUNCTIONS = {
    "protocols": {
        "is_protocol": ["thing"], "protocol_text": ["protocol"], "read_protocol": ["text"], "known": ["word"],
        "marks_of": ["role"], "forced_places": ["protocol"], "lazier": ["protocol", "places"],
    },
    "standings": {
        "first_standing": ["protocol", "n"], "is_standing": ["protocol", "n", "thing"],
        "steps_from": ["protocol", "n", "standing"], "behind": ["protocol", "n", "standing", "step"],
        "is_row": ["protocol", "n", "thing"], "standing_behind": ["protocol", "n", "steps"],
    },
    "judge": {
        "judge_alike": ["protocol", "n"], "judge_willing": ["protocol", "n"], "alike_holds": ["protocol", "n", "thing"],
        "willing_holds": ["protocol", "n", "thing"], "is_taken": ["protocol", "n"], "many_reached": ["protocol", "n"],
    },
    "live": {
        "judge_live": ["protocol", "n"], "judge_free": ["protocol", "n"], "live_holds": ["protocol", "n", "thing"],
        "free_holds": ["protocol", "n", "thing"], "lazy_lots": ["protocol", "n"], "costs": ["protocol", "n"],
    },
    "changes": {
        "called": ["protocol", "names"], "reordered": ["protocol", "orders"], "states_met": ["protocol", "n"],
        "cut_down": ["protocol", "n"],
    },
    "disks": {
        "is_log_row": ["thing"], "row_text": ["row"], "sectors_of": ["row"], "read_row": ["text"], "is_device": ["thing"],
        "log_of": ["device"], "length_of": ["device"], "written": ["device", "row"], "forced": ["device"], "mended": ["device"],
        "cut": ["device", "lost"],
    },
    "tables": {
        "are_pages": ["thing"], "empty_pages": ["many"], "page_of": ["key", "many"], "worth_of": ["pages", "key"], "worths_on": ["pages"],
        "done": ["pages", "number", "row"], "all_done": ["pages", "rows"], "worths_by": ["rows"],
    },
    "locks": {
        "are_locks": ["thing"], "asked": ["locks", "deal", "key", "kind"], "freed": ["locks", "deal"], "waits_for": ["locks"],
        "judge_web": ["web"], "web_holds": ["web", "thing"], "victim": ["web"],
    },
    "houses": {
        "new_house": ["many"], "is_house": ["thing"], "begun": ["house", "deal", "role", "houses"], "read_at": ["house", "deal", "key"],
        "write_at": ["house", "deal", "key", "worth"], "marked": ["house", "deal", "mark", "is_forced"], "ended": ["house", "deal", "end"],
        "ended_amid": ["house", "deal", "end", "k", "lost"], "flushed": ["house", "k"], "fallen": ["house", "lost"], "come_up": ["house"],
        "open_deals": ["house"], "last_mark": ["house", "deal"],
    },
    "stores": {
        "new_store": ["protocol", "n", "many"], "is_store": ["thing"], "opened": ["store", "houses"], "read": ["store", "deal", "house", "key"],
        "write": ["store", "deal", "house", "key", "worth"], "fired": ["store", "deal", "house", "r"], "can_fire": ["store", "deal", "house"],
        "hears": ["store", "deal", "house", "sender", "kind"], "falls": ["store", "house", "lost"], "amid": ["store", "thing", "k", "lost"],
        "comes_up": ["store", "house"], "flush": ["store", "house", "k"], "force": ["store", "house"], "standing_of": ["store", "deal"],
        "ends_of": ["store", "deal"], "worths_at": ["store", "house"],
    },
    "ways": {
        "happened": ["store", "thing"], "is_run": ["store", "thing"], "behind_run": ["store", "run"], "what_can": ["store"],
        "way_of": ["protocol", "n", "many", "run", "deal"],
    },
    "histories": {
        "is_history": ["thing"], "is_right_in": ["history", "order"], "left_by": ["history"], "judge_serial": ["history"],
        "serial_holds": ["history", "thing"], "kept_deals": ["store"], "history_of": ["store"],
    },
    "checks": {
        "are_disks": ["thing"], "disks_of": ["store"], "judge_disks": ["protocol", "disks"], "disks_hold": ["protocol", "disks", "thing"],
        "judge_finish": ["store"], "finish_holds": ["store", "thing"],
    },
    "benches": {
        "read_bench": ["text"], "is_wish": ["thing"], "does_show": ["protocol", "n", "many", "run", "wish"],
        "shortened": ["protocol", "n", "many", "run", "wish"], "is_tight": ["protocol", "n", "many", "run", "wish"],
    },
}
BENCH = {
    "__init__": ["self", "protocol", "n", "many"], "protocol": ["self"], "run": ["self"], "store": ["self"], "text": ["self"], "do": ["self", "thing"],
    "undo": ["self"], "redo": ["self"], "copied": ["self"], "__eq__": ["self", "other"],
}
TWO = known("tworounds")
VALUES = {
    "protocol": TWO, "n": 2, "thing": (), "text": "\n".join(["leader", "state", "up 0", "member", "state", "up 0"]),
    "word": "lazy", "role": TWO[0], "places": ((0, 0, 1),), "standing": first_standing(TWO, 2),
    "step": ("rule", 0, 0), "steps": (("rule", 0, 0),),
    "names": (
        tuple((kind, kind + "s") for kind in ("ask", "drop", "keep", "no", "what", "yes")),
        (("dropped", "d"), ("kept", "k"), ("yes", "able")),
    ),
    "orders": ((0, 3, 1, 2), (0, 4, 2, 1, 3)), "row": ("write", 3, "apple", None, 5), "device": ((".end 3 kept ",), 0), "lost": (0,),
}
VALUES.update({
    "many": 2, "key": "a", "number": 1, "pages": new_house(2)[1], "rows": (VALUES["row"],), "locks": ((("a", 1, "read"),), ()), "deal": 0,
    "kind": "read", "web": ((1, 2),), "house": 0, "houses": (1, 0), "worth": None, "mark": "yes", "is_forced": True, "end": "kept", "k": 0, "r": 0,
    "store": opened(new_store(TWO, 2, 1), (0, 1)), "run": (("open", (0, 1)), ("fire", 0, 0, 1)), "history": ((0, (("write", 0, "a", 1),)),), "order": (0,),
    "disks": ((((), 0), ((0, ()),)),) * 2, "wish": ("told", 0, "dropped"),
})
HOUSE = begun(new_house(1), 0, "leader", (0, 1))
DOWN = falls(VALUES["store"], 0, ())
ASKED = fired(VALUES["store"], 0, 0, 0)
# Where the same parameter asks for another kind of value, or would take long.
OTHER_VALUES = {
    "read_row": {"text": "mark 3 able"}, "lazy_lots": {"n": 1}, "begun": {"role": "leader", "deal": 1}, "come_up": {"house": fallen(HOUSE, ())},
    "amid": {"thing": ("fire", 0, 0, 1), "lost": ()}, "comes_up": {"store": DOWN}, "hears": {"store": ASKED, "house": 1, "sender": 0, "kind": "ask"},
    "happened": {"thing": ("force", 0)}, "behind_run": {"run": (("force", 0),)},
    "read_bench": {"text": VALUES["text"] + "\nhouses 2\npages 1\nopen 0,1"},
}


# Among the values of any kind there are some of the kinds that are asked for.
RIGHT_BY_CHANCE = [("is_row", ()), ("is_run", ()), ("is_history", ()), ("are_locks", ((), ()))]


def values_for(function, parameters):
    values = {**VALUES, **OTHER_VALUES.get(function.__name__, {})}
    if function.__module__ == "allshelves.houses" and isinstance(values["house"], int):
        values["house"] = HOUSE
    return {name: values[name] for name in parameters}


def is_plain(thing):
    """Whether a result consists of integers, strings, bools, None and tuples, or is a bench."""
    if isinstance(thing, tuple):
        return all(is_plain(item) for item in thing)
    return thing is None or type(thing) in (int, str, bool, Bench)


class Interface(Checks):
    def all_functions(self):
        for file, functions in FUNCTIONS.items():
            module = importlib.import_module(f"allshelves.{file}")
            for name, parameters in functions.items():
                yield getattr(module, name), parameters, module

    def test_defined_where_listed(self):
        for function, _, module in self.all_functions():
            self.assertTrue(inspect.isfunction(function))
            self.assertEqual(function.__module__, module.__name__)

    def test_parameters(self):
        for function, parameters, _ in self.all_functions():
            self.assertEqual(list(inspect.signature(function).parameters), parameters)

    def test_by_position_and_by_name(self):
        for function, parameters, _ in self.all_functions():
            values = values_for(function, parameters)
            by_position = function(*values.values())
            self.alike(function(**{name: values[name] for name in reversed(parameters)}), by_position)
            first, rest = parameters[:1], parameters[1:]
            mixed = function(*[values[name] for name in first], **{name: values[name] for name in rest})
            self.alike(mixed, by_position)

    def alike(self, result, wanted):
        if isinstance(wanted, Bench):
            result, wanted = result.text(), wanted.text()
        self.same(result, wanted)

    def test_the_bench(self):
        self.assertEqual(Bench.__module__, "allshelves.benches")
        self.assertEqual(Bench.__bases__, (object,))
        for name, parameters in BENCH.items():
            self.assertEqual(list(inspect.signature(vars(Bench)[name]).parameters), parameters)

    def test_results_are_plain_and_the_same_again(self):
        for function, parameters, _ in self.all_functions():
            values = list(values_for(function, parameters).values())
            before = repr(values)
            result = function(*values)
            self.assertTrue(is_plain(result), function.__name__)
            self.alike(function(*values), result)
            self.assertEqual(repr(values), before)

    def test_any_value_is_answered(self):
        for function, parameters, _ in self.all_functions():
            if parameters[-1] == "thing":
                for thing in values_of_any_kind():
                    values = list(values_for(function, parameters[:-1]).values())
                    if function.__name__ == "happened":
                        self.refuses(BadEvent, thing, function, *values, thing)
                    else:
                        wanted = (function.__name__, thing) in RIGHT_BY_CHANCE
                        self.assertIs(function(*values, thing), wanted, (function.__name__, thing))

    def test_arguments_stay_as_they_are(self):
        for function, parameters, _ in self.all_functions():
            for thing in ([], [["rule", 0, 0]], {"a": [1]}, [VALUES["standing"]]):
                before = repr(thing)
                try:
                    function(*values_for(function, parameters[:-1]).values(), thing)
                except Exception:
                    pass
                self.assertEqual(repr(thing), before)


if __name__ == "__main__":
    unittest.main()
