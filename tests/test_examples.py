"""The examples of sections 4 to 18, as the document prints them, and those of the README."""

import doctest
import pathlib
import unittest

STORES = r"""
>>> from sumshelves.stores import answers, having, side_by_side, Store
>>> store = Store('items a b\nhouse one 2 a\nhouse two 2 b\nhouse sum 1 a+b')
>>> [store.house_names, store.strengths, store.pieces, len(store), 'sum' in store, 'a' in store]
[('one', 'two', 'sum'), (2, 2, 1), (((0,),), ((1,),), ((0, 1),)), 3, True, False]
>>> [answers(store, 2, '10'), answers(store, 2, '11'), having(store, 0), answers(store.with_piece(2, (1,)), 2, '11')]
['1', '0', (0, 2), '01']
>>> [store.with_house('far', 0, ((0,), (0, 1))).text.split('\n')[4], store.without_house(0).with_strength(1, 9).text]
['house far 0 a a+b', 'items a b\nhouse two 2 b\nhouse sum 9 a+b']
>>> side_by_side(store, Store('items c\nhouse x 1 c\nhouse y 1 c')).pieces[2:]
(((0, 1),), ((2,),), ((2,),))
"""

LOTS = r"""
>>> from sumshelves.lots import awake, blocker, had, items_had, least_lots, losing_content, losing_lots, used
>>> from sumshelves.stores import Store
>>> store = Store('items a b\nhouse one 2 a\nhouse two 2 b\nhouse three 1 a+b\nhouse four 1 a+b')
>>> [least_lots(store, 0), losing_lots(store, 0), used(store, 1)]
[((0,), (1, 2), (1, 3)), ((0, 1), (0, 2, 3)), (0, 1, 2, 3)]
>>> [had(store, 0, (1, 2)), had(store, 0, (1,)), items_had(store, (0, 3)), awake(store, '11')]
[('had', ((1, 0), (2, 0))), ('unseen', '10'), (0, 1), (0, 1)]
>>> [losing_content(store, 0, (0, 2, 3)), blocker(4, ((0, 1), (0, 2, 3))), blocker(2, ()), blocker(2, ((),))]
['10', ((0,), (1, 2), (1, 3)), ((),), ()]
>>> [least_lots(Store('items a b\nhouse one 1 a+b\nhouse two 1 a+b'), 0), least_lots(Store('items a b\nhouse one 1 a+b b\nhouse two 1 b'), 0)]
[(), ((0,),)]
"""

PLANS = r"""
>>> from sumshelves.plans import bears, borne, cost_and_worth, greatest, greatest_times, shows_borne, slack
>>> from sumshelves.stores import Store
>>> both = Store('items a b\nhouse one 2 a\nhouse two 2 b\nhouse three 1 a+b')
>>> some = ((0, (0,), (2, 1)), (0, (1, 2), (1, 1)), (1, (1,), (1, 1)))
>>> [bears(both, ((3, 1), (1, 1)), some), bears(both, ((3, 1), (2, 1)), some), borne(both, ((3, 1), (2, 1)))[0]]
[('bears',), ('short', 1, (1, 1)), 'prices']
>>> [cost_and_worth(both, ((3, 1), (2, 1)), ((1, 1), (1, 1), (0, 1))), shows_borne(both, ((3, 1), (2, 1)), ('prices', ((1, 1), (1, 1), (0, 1))))]
[('cost', (5, 1), (4, 1)), True]
>>> [greatest(both, 0)[1], greatest_times(both, ((1, 1), (1, 1)))[1], slack(both, ((1, 1), (1, 1)), 0)[1]]
[(3, 1), (2, 1), 2]
"""

CONTENTS = r"""
>>> from sumshelves.contents import barring_content, content_side, content_times, told_by_contents
>>> from sumshelves.stores import Store
>>> both = Store('items a b\nhouse one 2 a\nhouse two 2 b\nhouse three 1 a+b')
>>> [content_side(both, '11'), content_side(both, '10'), barring_content(both, ((3, 1), (2, 1))), content_times(both, ((3, 1), (2, 1)))]
[((0, 1), (0, 1), 4), ((0,), (0, 2), 3), '11', ((4, 5), '11')]
>>> planes = Store('items a b c d\nhouse p 1 a+b\nhouse q 1 a+c\nhouse r 1 a+d\nhouse s 1 a+b+c\nhouse t 1 a+b+d\nhouse u 1 a+c+d\nhouse v 1 a+b+c+d')
>>> [content_times(planes, ((1, 1), (0, 1), (0, 1), (0, 1)))[0], told_by_contents(planes, ((1, 1), (0, 1), (0, 1), (0, 1)))[:2]]
[(3, 1), ('more', (7, 3))]
"""

REGION = r"""
>>> from sumshelves.region import corners, direction, edges, greatest_beside, held_sides, mixed, sides, why_side
>>> from sumshelves.stores import Store
>>> store = Store('items a b\nhouse p 2 a\nhouse q 2 b\nhouse r 1 a+b')
>>> [sides(store), corners(store)]
[(((0, 1), 3), ((1, 0), 3), ((1, 1), 4)), (((0, 1), (0, 1)), ((0, 1), (3, 1)), ((1, 1), (3, 1)), ((3, 1), (0, 1)), ((3, 1), (1, 1)))]
>>> [edges(store), why_side(store, (1, 1), 4), direction(store, (2, 1))[0]]
[((0, 1), (0, 3), (1, 2), (2, 4), (3, 4)), ('side', ((1, 1), (1, 1), (0, 1)), (2, 4)), (7, 1)]
>>> [mixed(store, ((2, 1), (2, 1))), greatest_beside(store, 0, ((0, 1), (2, 1))), held_sides(store, 1, (2, 1))]
[('mixed', ((2, (1, 2)), (4, (1, 2)))), ((2, 1), 2), (((1,), 2),)]
"""

WHOLE = r"""
>>> from sumshelves.stores import Store
>>> from sumshelves.whole import any_asks, most_any, most_of, shows_whole_plan, whole_plan
>>> sums = Store('items a b\nhouse p 1 a\nhouse q 1 b\nhouse r 1 a+b')
>>> [whole_plan(sums, (1, 1)), whole_plan(sums, (2, 0)), whole_plan(sums, (2, 1))[0], most_of(sums, 1)[:2]]
[('placing', ((0, (0,), 1), (1, (1,), 1))), ('placing', ((0, (0,), 1), (0, (1, 2), 1))), 'barred', (2, ((1, (0, 2), 1), (1, (1,), 1)))]
>>> [any_asks(sums, 2), any_asks(sums, 3)[0], most_any(sums)]
[('always',), 'barred', 2]
>>> cross = Store('items a b x\nhouse k 1 x\nhouse l 1 a+x\nhouse m 1 b+x\nhouse n 1 a+b+x')
>>> one, none = (1, 1), (0, 1)
>>> tree = ('set', 0, (0, 1), (('prices', (none, none, one, one)), ('prices', (one, one, none, none))))
>>> [shows_whole_plan(cross, (1, 1, 0), ('barred', tree)), most_of(cross, 0)[:2]]
[True, (2, ((0, (0, 1), 1), (0, (2, 3), 1)))]
"""

APART = r"""
>>> from sumshelves.apart import apart_always, left_lots, losing_always, losing_packed, packed, shows_apart_always
>>> from sumshelves.stores import Store
>>> knot = 'items a b c d\nhouse p 1 b\nhouse q 1 c\nhouse r 1 d\nhouse s 1 b+c+d\nhouse t 1 a+c+d\nhouse u 1 a+b+d'
>>> [left_lots(Store(knot), 0, (), ()), apart_always(Store(knot), 0), losing_always(Store(knot), 0)]
[((0, 2, 5), (0, 3, 4), (1, 2, 4), (1, 3, 5)), ('bar', (), ()), ('always',)]
>>> [len(packed(Store(knot), 0)[0]), len(packed(Store(knot), 0)[1]), left_lots(Store(knot), 0, (0,), (1, 2))]
[1, 2, ((4,), (3, 5))]
>>> more = Store(knot + '\nhouse v 9 a+b')
>>> [apart_always(more, 0)[0], shows_apart_always(more, 0, ('bar', (6,), ())), shows_apart_always(more, 0, ('bar', (), (6,)))]
['bar', True, False]
>>> [losing_packed(Store('items a b\nhouse p 1 a\nhouse q 1 b\nhouse r 1 a+b'), 0, (2, 1, 1))[0], apart_always(Store('items a\nhouse p 1 a\nhouse q 1 a'), 0)]
[((0, 1), (0, 2)), ('always',)]
"""

FALLS_MENDING = r"""
>>> from sumshelves.falls import bearing_lots, behind_falls, breaking_lots, greatest_behind, most_falls, shows_greatest_behind
>>> from sumshelves.mending import greatest_mending, helping_lots, shows_greatest_mending
>>> from sumshelves.stores import Store
>>> store = Store('items a b\nhouse one 2 a\nhouse two 2 b\nhouse three 1 a+b')
>>> one, half = (1, 1), (1, 2)
>>> behind_falls(store, (one, one), 1)
('borne', (((0, (1, 2), (1, 1)), (1, (1,), (1, 1))), ((0, (0,), (1, 1)), (1, (0, 2), (1, 1))), ((0, (0,), (1, 1)), (1, (1,), (1, 1)))))
>>> [breaking_lots(store, (one, one)), bearing_lots(store, (one, one)) == breaking_lots(store, (one, one)), most_falls(store, (one, one))]
[((0, 1), (0, 2), (1, 2)), True, 1]
>>> told = greatest_behind(store, (one, one), 1)
>>> [told[:2], told[2] == behind_falls(store, (one, one), 1)[1], shows_greatest_behind(store, (one, one), 1, told[:3] + ((0,), (one, half, (0, 1))))]
[('times', (1, 1)), True, True]
>>> [helping_lots(store, 0), greatest_mending(store, 0, (half, half))[:3]]
[((1, 2),), ((1, 2), ((0, (1, 2), (1, 2)), (1, (1,), (1, 2))), (((1, 2), (1, 2)),))]
>>> shows_greatest_mending(store, 0, (half, half), greatest_mending(store, 0, (half, half))[:3] + (((1, 1), (0, 1), (1, 1)),))
True
"""

WORTHS = r"""
>>> from sumshelves.stores import Store
>>> from sumshelves.worths import house_worth, two_worths, wanted, worth_line
>>> three = Store('items a b\nhouse one 2 a\nhouse two 2 b\nhouse three 1 a+b')
>>> alike = ((1, 1), (1, 1))
>>> [worth_line(three, alike, 0)[part] for part in (1, 3)]
[(((0, 1), (1, 1)), ((4, 1), (3, 1))), (((1, 2), (1, 2), (0, 1)), ((0, 1), (1, 1), (1, 1)))]
>>> [house_worth(three, alike, 0), house_worth(three.with_strength(0, 4), alike, 0), two_worths(three, alike, 0, 1)]
[('worth', (1, 2), (1, 2)), ('worth', (1, 2), (0, 1)), ('worths', (1, 2), (1, 2), (1, 1))]
>>> wanted(three, alike)
('wanted', ((2, 1), (2, 1), (0, 1)))
"""

WRITES = r"""
>>> from sumshelves.stores import Store
>>> from sumshelves.writes import better_shares, borne_writes, strain_line
>>> two, three = Store('items a\nhouse x 1 a\nhouse y 1 a'), Store('items a\nhouse x 1 a\nhouse y 1 a\nhouse z 1 a')
>>> [borne_writes(two, ((1, 1),), ((1, 2),))[0], borne_writes(two, ((3, 2),), ((1, 2),))[0], borne_writes(two, ((0, 1),), ((1, 1),))]
['plan', 'prices', ('plan', ())]
>>> [strain_line(two, ((2, 1),), ((1, 1),))[1], strain_line(three, ((2, 1),), ((1, 1),))[1], strain_line(two, ((1, 1),), ((1, 1),))[1]]
[(((0, 1), (1, 1)), ((1, 1), (1, 1))), (((0, 1), (2, 3)), ((1, 1), (1, 1))), (((0, 1), (1, 2)), ((1, 1), (1, 1)))]
>>> [better_shares(two, three, ((2, 1),), ((1, 1),)), better_shares(two, two, ((2, 1),), ((1, 1),))]
[('ranges', (((0, 1), (1, 1), 'more'),)), ('ranges', (((0, 1), (1, 1), 'like'),))]
"""

BESIDE = r"""
>>> from sumshelves.beside import bears_all, needless_pieces, same_lots, shows_bears_all, within_region
>>> from sumshelves.stores import Store
>>> plain = Store('items a b\nhouse p 1 a\nhouse q 1 b\nhouse r 1 b')
>>> mixed = Store('items a b\nhouse p 1 a\nhouse q 1 b\nhouse r 1 a+b')
>>> [bears_all(plain, plain), bears_all(mixed, plain), shows_bears_all(plain, mixed, ('parts', 1, (2,), '11'))]
[('all', ((0,), (0, 1))), ('parts', 0, (1, 2), '10'), True]
>>> [needless_pieces(Store('items a b\nhouse p 1 a b\nhouse q 1 a+b')), same_lots(plain, plain), within_region(plain, mixed)[0]]
[(), ('same',), 'parts']
"""

HEARD = r"""
>>> from sumshelves.heard import heard_plan, heard_range, heard_sure, settled_sums, settling, settling_lots, wrong_counts
>>> from sumshelves.stores import Store
>>> three = Store('items a b\nhouse one 2 a\nhouse two 2 b\nhouse three 1 a+b')
>>> twos, last = ((2, 1), (2, 1), (2, 1)), ((0, 1), (0, 1), (1, 1))
>>> [heard_range(three, twos, 0)[1:3], heard_sure(three, twos, (1, 1), (4, 1))[0], heard_sure(three, twos, (1, 0), (1, 1))[0]]
[((0, 1), (4, 1)), 'surely', 'open']
>>> [heard_plan(three, last)[0], len(wrong_counts(three, last)[1]), settling(three, (0, 1, 2), (1, 0))[0]]
['quarrel', 1, 'two']
>>> settling(three, (0, 1), (1, 1))
('row', ((1, 1), (1, 1), (0, 1)))
>>> [settling_lots(three, (1, 1)), settled_sums(three, (0, 1)), settled_sums(three, (0, 2))]
[((0, 1),), ((1, 1),), ()]
"""

CHOOSING = r"""
>>> from sumshelves.choosing import cheapest
>>> from sumshelves.offers import choices, chosen
>>> from sumshelves.stores import Store
>>> two = Store('items a b\nhouse one 1 a\nhouse two 1 b')
>>> offers = (('house', 'three', 1, ((0, 1),), 5), ('piece', 0, (1,), 3), ('strength', 1, 2, 2))
>>> [choices(two, offers)[:4], chosen(two, offers, (0, 2)).text.split('\n')[2:]]
[((0, ()), (2, (2,)), (3, (1,)), (5, (0,))), ['house two 2 b', 'house three 1 a+b']]
>>> [cheapest(two, offers, (('had', 0, 1),))[:3], cheapest(two, offers, (('bears', ((1, 1), (2, 1))), ('had', 1, 1)))[:3]]
[('choice', 5, (0,)), ('choice', 5, (1, 2))]
"""

HALL = r"""
>>> from sumshelves.hall import Hall
>>> hall = Hall(Store('items a b\nhouse p 1 a\nhouse q 1 b\nhouse r 1 a+b'))
>>> [hall.come(0), hall.come(0), hall.asks, hall.room(1)[0], hall.fall(0), hall.asks]
[0, 1, ((0, 0, (0,)), (1, 0, (1, 2))), 'refused', (0,), ((1, 0, (1, 2)),)]
>>> [hall.rise(0), hall.room(0), hall.settle(), hall.asks, hall.come(1), hall.moved, len(hall)]
[None, ('room', 0), 1, ((1, 0, (0,)),), 2, 1, 2]
>>> [hall.undo(), hall.undo(), hall.asks, hall.done, hall.redo(), hall.load(2)]
[None, None, ((1, 0, (1, 2)),), 4, None, 0]
"""

DESK = r"""
>>> from sumshelves.desk import Desk
>>> from sumshelves.journals import journal, read_journal
>>> desk = Desk('items a b\nhouse p 1 a\nhouse q 1 b\nhouse r 1 a+b\nhall\ncome a')
>>> [desk.say(line) for line in ('come a', 'at 1', 'room b', 'fall p', 'asks', 'of b', 'bears a 1 b 1', 'bears b 3')]
['1', 'q r', 'no', '0', '1', '.', 'yes', 'no']
>>> [journal(desk.hall).split('\n')[4:], read_journal(journal(desk.hall)) == desk.hall, desk.say('undo'), desk.say('asks')]
[['hall', 'come a', 'come a', 'fall p'], True, 'ok', '0 1']
"""


class Examples(unittest.TestCase):
    def check(self, text):
        test = doctest.DocTestParser().get_doctest(text, {}, "document", None, 0)
        told = []
        failed, many = doctest.DocTestRunner(verbose=False).run(test, out=told.append)
        self.assertGreater(many, 4)
        self.assertEqual(failed, 0, "".join(told))

    def test_readme(self):
        path = pathlib.Path(__file__).resolve().parent.parent / "README.md"
        blocks = [part.split("```")[0] for part in path.read_text().split("```python\n")[1:]]
        self.check("\n".join(blocks))

    def test_stores(self):
        self.check(STORES)

    def test_lots(self):
        self.check(LOTS)

    def test_plans(self):
        self.check(PLANS)

    def test_contents(self):
        self.check(CONTENTS)

    def test_region(self):
        self.check(REGION)

    def test_whole(self):
        self.check(WHOLE)

    def test_apart(self):
        self.check(APART)

    def test_falls_mending(self):
        self.check(FALLS_MENDING)

    def test_worths(self):
        self.check(WORTHS)

    def test_writes(self):
        self.check(WRITES)

    def test_beside(self):
        self.check(BESIDE)

    def test_heard(self):
        self.check(HEARD)

    def test_choosing(self):
        self.check(CHOOSING)

    def test_hall(self):
        self.check(">>> from sumshelves.stores import Store\n" + HALL)

    def test_desk(self):
        self.check(DESK)


if __name__ == "__main__":
    unittest.main()
