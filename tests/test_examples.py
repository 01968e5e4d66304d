"""The examples of sections 4 and 5, as the document prints them."""

import doctest
import unittest

STORES = r"""
>>> from sumshelves.stores import answers, having, side_by_side, Store
>>> store = Store('items a b\nhouse one 2 a\nhouse two 2 b\nhouse sum 1 a+b')
>>> [store.house_names, store.strengths, store.pieces, len(store), 'sum' in store, 'a' in store]
[('one', 'two', 'sum'), (2, 2, 1), (((0,),), ((1,),), ((0, 1),)), 3, True, False]
>>> [answers(store, 2, '10'), answers(store, 2, '11'), having(store, 0), answers(store.with_piece(2, (1,)), 2, '11')]
['1', '0', (0, 2), '01']
>>> [store.with_house('far', 0, ((0,), (0, 1))).text.split('\n')[4], store.without_house(0).with_strength(1, 9).text]
['house far 0 a a+b', 'items a b\nhouse two 2 b\nhouse sum 9 a+b']
>>> side_by_side(store, Store('items c\nhouse x 1 c\nhouse y 1 c')).pieces[2:]
(((0, 1),), ((2,),), ((2,),))
"""

LOTS = r"""
>>> from sumshelves.lots import awake, blocker, had, items_had, least_lots, losing_content, losing_lots, used
>>> from sumshelves.stores import Store
>>> store = Store('items a b\nhouse one 2 a\nhouse two 2 b\nhouse three 1 a+b\nhouse four 1 a+b')
>>> [least_lots(store, 0), losing_lots(store, 0), used(store, 1)]
[((0,), (1, 2), (1, 3)), ((0, 1), (0, 2, 3)), (0, 1, 2, 3)]
>>> [had(store, 0, (1, 2)), had(store, 0, (1,)), items_had(store, (0, 3)), awake(store, '11')]
[('had', ((1, 0), (2, 0))), ('unseen', '10'), (0, 1), (0, 1)]
>>> [losing_content(store, 0, (0, 2, 3)), blocker(4, ((0, 1), (0, 2, 3))), blocker(2, ()), blocker(2, ((),))]
['10', ((0,), (1, 2), (1, 3)), ((),), ()]
>>> [least_lots(Store('items a b\nhouse one 1 a+b\nhouse two 1 a+b'), 0), least_lots(Store('items a b\nhouse one 1 a+b b\nhouse two 1 b'), 0)]
[(), ((0,),)]
"""


class Examples(unittest.TestCase):
    def check(self, text):
        test = doctest.DocTestParser().get_doctest(text, {}, "document", None, 0)
        told = []
        failed, many = doctest.DocTestRunner(verbose=False).run(test, out=told.append)
        self.assertGreater(many, 4)
        self.assertEqual(failed, 0, "".join(told))

    def test_stores(self):
        self.check(STORES)

    def test_lots(self):
        self.check(LOTS)


if __name__ == "__main__":
    unittest.main()
