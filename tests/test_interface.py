"""The interface: its names, where they are defined, and how their parameters are called."""

import inspect
import unittest

from sumshelves import (
    apart, beside, choosing, contents, desk, falls, hall, heard, journals, lots, mending, offers, plans, region, stores, whole,
    worths, writes,
)

METHODS = {
    "__init__": ["self", "text"],
    "__len__": ["self"],
    "__contains__": ["self", "value"],
    "__eq__": ["self", "other"],
    "with_house": ["self", "name", "strength", "pieces"],
    "without_house": ["self", "house"],
    "with_strength": ["self", "house", "strength"],
    "with_piece": ["self", "house", "piece"],
    "without_piece": ["self", "house", "number"],
}
FUNCTIONS = {
    stores: {"answers": ["store", "house", "content"], "having": ["store", "item"], "side_by_side": ["one", "other"]},
    lots: {
        "had": ["store", "item", "lot"],
        "shows_had": ["store", "item", "lot", "value"],
        "items_had": ["store", "lot"],
        "least_lots": ["store", "item"],
        "used": ["store", "item"],
        "losing_lots": ["store", "item"],
        "awake": ["store", "content"],
        "losing_content": ["store", "item", "lot"],
        "shows_losing_content": ["store", "item", "lot", "value"],
        "blocker": ["many", "family"],
    },
}
# These are called by name in test_wrongs.
OTHERS = {
    plans: """cheapest_lot house_loads cost_and_worth bears borne shows_borne greatest shows_greatest greatest_times
        shows_greatest_times slack shows_slack""",
    contents: "content_side barring_content content_times told_by_contents shows_told_by_contents",
    region: """sides corners edges broken_side why_side shows_why_side direction shows_direction mixed shows_mixed
        greatest_beside held_sides""",
    whole: "whole_plan shows_whole_plan most_of shows_most_of any_asks shows_any_asks most_any",
    apart: """packed shows_packed losing_packed shows_losing_packed left_lots apart_always shows_apart_always losing_always
        shows_losing_always""",
    falls: """behind_falls shows_behind_falls breaking_lots bearing_lots most_falls greatest_behind
        shows_greatest_behind""",
    mending: "helping_lots greatest_mending shows_greatest_mending",
    worths: "worth_line shows_worth_line house_worth two_worths wanted",
    writes: "borne_writes shows_borne_writes strain_line shows_strain_line better_shares",
    beside: """bears_all shows_bears_all same_lots shows_same_lots needless_pieces in_other_words joined within_region
        shows_within_region""",
    heard: """heard_plan shows_heard_plan heard_range shows_heard_range heard_sure shows_heard_sure settling shows_settling
        settling_lots settled_sums wrong_counts shows_wrong_counts""",
    offers: "choices chosen",
    choosing: "comes_true shows_comes_true cheapest shows_cheapest",
    journals: "journal read_journal",
}
# For each class its file, and its methods that the document tells.
CLASSES = {
    "Store": (stores, "with_house without_house with_strength with_piece without_piece"),
    "Hall": (hall, "come go fall rise settle load room shows_room undo redo trial keep tried copy"),
    "Desk": (desk, "say"),
}
TEXT = "items a b\nhouse one 2 a\nhouse two 2 b\nhouse sum 1 a+b"


class Interface(unittest.TestCase):
    def test_functions(self):
        for module, functions in FUNCTIONS.items():
            for name, parameters in functions.items():
                function = getattr(module, name)
                self.assertEqual(function.__module__, module.__name__)
                self.assertEqual(list(inspect.signature(function).parameters), parameters)

    def test_others_are_defined_in_their_files(self):
        for module, names in OTHERS.items():
            for name in names.split():
                function = getattr(module, name)
                self.assertTrue(inspect.isfunction(function))
                self.assertEqual((function.__module__, function.__name__), (module.__name__, name))

    def test_classes(self):
        for name, (module, methods) in CLASSES.items():
            held = getattr(module, name)
            self.assertEqual((held.__module__, held.__name__, held.__bases__), (module.__name__, name, (object,)))
            for method in methods.split():
                self.assertTrue(inspect.isfunction(vars(held)[method]))
                self.assertEqual(vars(held)[method].__module__, module.__name__)

    def test_methods_stand_in_the_class_itself(self):
        self.assertEqual(stores.Store.__module__, "sumshelves.stores")
        for name, parameters in METHODS.items():
            self.assertEqual(list(inspect.signature(vars(stores.Store)[name]).parameters), parameters)

    def test_calls_by_name(self):
        store = stores.Store(text=TEXT)
        self.assertEqual(store.with_house(name="x", strength=1, pieces=((0,),)), store.with_house("x", 1, ((0,),)))
        self.assertEqual(store.without_house(house=1), store.without_house(1))
        self.assertEqual(store.with_strength(house=1, strength=4), store.with_strength(1, 4))
        self.assertEqual(store.with_piece(house=1, piece=(0,)), store.with_piece(1, (0,)))
        two = store.with_piece(1, (0,))
        self.assertEqual(two.without_piece(house=1, number=0), two.without_piece(1, 0))
        self.assertEqual(stores.answers(store=store, house=0, content="10"), "1")
        self.assertEqual(stores.having(store=store, item=0), (0, 2))
        other = stores.Store("items c\nhouse x 1 c\nhouse y 1 c")
        self.assertEqual(stores.side_by_side(other=other, one=store), stores.side_by_side(store, other))
        self.assertEqual(lots.had(lot=(0,), item=0, store=store), ("had", ((0, 0),)))
        self.assertIs(lots.shows_had(store=store, item=0, lot=(0,), value=("had", ((0, 0),))), True)
        self.assertEqual(lots.items_had(store=store, lot=(0, 2)), (0, 1))
        self.assertEqual(lots.least_lots(store=store, item=0), ((0,), (1, 2)))
        self.assertEqual(lots.used(store=store, item=0), (0, 1, 2))
        self.assertEqual(lots.losing_lots(store=store, item=0), ((0, 1), (0, 2)))
        self.assertEqual(lots.awake(store=store, content="01"), (1, 2))
        self.assertEqual(lots.losing_content(store=store, item=0, lot=(0, 2)), "10")
        self.assertIs(lots.shows_losing_content(store=store, item=0, lot=(0, 2), value="10"), True)
        self.assertEqual(lots.blocker(many=2, family=((0, 1),)), ((0,), (1,)))


if __name__ == "__main__":
    unittest.main()
