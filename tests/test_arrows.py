"""Points 10 and 11: open and takeable arrows, arrows that clash."""

import unittest

from charts import house, nested, pair, three
from chartfold.keeping import clash_of, takeable

INSIDE = (0, 2, 3, 4, 5, 8, 9)


class Takeable(unittest.TestCase):
    def test_no_arrow(self):
        self.assertEqual(takeable(pair([]), (0, 1), 0), [])

    def test_the_event(self):
        chart = pair([(1, 0, -1, 2, 0), (1, 1, -1, 2, 0), (1, 2, -1, 2, 0), (1, 3, -1, 2, 0)])
        for event in range(4):
            self.assertEqual(takeable(chart, (0, 1), event), [event])

    def test_event_that_no_arrow_can_have(self):
        chart = pair([(1, 0, -1, 2, 0), (1, 3, -1, 2, 0)])
        self.assertEqual(takeable(chart, (0, 1), 4), [])
        self.assertEqual(takeable(chart, (0, 1), -1), [])

    def test_the_source_is_kept(self):
        chart = pair([(1, 0, -1, 2, 0), (2, 0, -1, 1, 0)])
        self.assertEqual(takeable(chart, (0, 1), 0), [0])
        self.assertEqual(takeable(chart, (0, 2), 0), [1])

    def test_the_guard(self):
        chart = house([(5, 0, 9, 6, 0), (5, 1, 10, 6, 0), (5, 2, 0, 6, 0), (5, 3, -1, 6, 0)])
        self.assertEqual(takeable(chart, INSIDE, 0), [0])
        self.assertEqual(takeable(chart, INSIDE, 1), [])
        self.assertEqual(takeable(chart, INSIDE, 2), [2])
        self.assertEqual(takeable(chart, INSIDE, 3), [3])

    def test_guard_that_is_the_source(self):
        self.assertEqual(takeable(pair([(1, 0, 1, 2, 0)]), (0, 1), 0), [0])

    def test_target_need_not_be_kept(self):
        self.assertEqual(takeable(pair([(1, 0, -1, 1, 0), (1, 0, -1, 2, 0)]), (0, 1), 0), [0, 1])

    def test_inner_source_goes_first(self):
        for inner in (3, 4, 5, 8, 9):
            with self.subTest(inner=inner):
                self.assertEqual(takeable(house([(2, 0, -1, 1, 0), (inner, 0, -1, 1, 0)]), INSIDE, 0), [1])
                self.assertEqual(takeable(house([(inner, 0, -1, 1, 0), (2, 0, -1, 1, 0)]), INSIDE, 0), [0])

    def test_inner_source_that_is_not_open_hinders_nothing(self):
        chart = house([(2, 0, -1, 1, 0), (9, 1, -1, 1, 0), (9, 0, 10, 1, 0), (10, 0, -1, 1, 0)])
        self.assertEqual(takeable(chart, INSIDE, 0), [0])

    def test_hindered_arrow_hinders_too(self):
        # 1 hinders 0 though it is hindered by 2 itself.
        chart = house([(4, 0, -1, 1, 0), (8, 0, -1, 1, 0), (9, 0, -1, 1, 0)])
        self.assertEqual(takeable(chart, INSIDE, 0), [2])

    def test_same_source(self):
        chart = house([(9, 0, -1, 10, 0), (9, 0, -1, 10, 0), (9, 0, -1, 1, 0)])
        self.assertEqual(takeable(chart, INSIDE, 0), [0, 1, 2])

    def test_sources_side_by_side(self):
        chart = house([(9, 0, -1, 10, 0), (5, 0, -1, 6, 0), (2, 0, -1, 1, 0)])
        self.assertEqual(takeable(chart, INSIDE, 0), [0, 1])

    def test_list_is_the_askers_own(self):
        chart = pair([(1, 0, -1, 2, 0)])
        takeable(chart, (0, 1), 0).append(7)
        takeable(chart, (0, 1), 1).append(7)
        self.assertEqual(takeable(chart, (0, 1), 0), [0])
        self.assertEqual(takeable(chart, (0, 1), 1), [])


class Clashes(unittest.TestCase):
    def test_none_or_one(self):
        chart = pair([(1, 0, -1, 2, 0)])
        self.assertIsNone(clash_of(chart, []))
        self.assertIsNone(clash_of(chart, [0]))

    def test_same_scope(self):
        self.assertEqual(clash_of(pair([(1, 0, -1, 2, 0), (2, 3, -1, 1, 0)]), [0, 1]), (0, 1))

    def test_alike(self):
        self.assertEqual(clash_of(pair([(1, 0, -1, 2, 0)] * 2), [0, 1]), (0, 1))

    def test_scope_in_a_scope(self):
        # The scopes: 0, 4 and 8, each in the ones ahead of it.
        chart = house([(1, 0, -1, 2, 0), (7, 0, -1, 8, 0), (9, 0, -1, 10, 0)])
        self.assertEqual(clash_of(chart, [0, 1]), (0, 1))
        self.assertEqual(clash_of(chart, [1, 2]), (1, 2))
        self.assertEqual(clash_of(chart, [0, 2]), (0, 2))

    def test_inner_scope_ahead(self):
        chart = house([(9, 0, -1, 10, 0), (7, 0, -1, 8, 0), (1, 0, -1, 2, 0)])
        self.assertEqual(clash_of(chart, [0, 1]), (0, 1))
        self.assertEqual(clash_of(chart, [0, 2]), (0, 2))
        self.assertEqual(clash_of(chart, [1, 2]), (1, 2))

    def test_scopes_side_by_side(self):
        chart = house([(5, 0, -1, 6, 0), (7, 0, -1, 8, 0), (9, 0, -1, 10, 0)])
        self.assertIsNone(clash_of(chart, [0, 1]))
        self.assertIsNone(clash_of(chart, [0, 2]))
        self.assertIsNone(clash_of(three([(4, 0, -1, 5, 0), (6, 0, -1, 7, 0), (8, 0, -1, 9, 0)]), [0, 1, 2]))

    def test_scopes_count_and_not_sources(self):
        # 3 and 9 lie side by side, but the scope of the first arrow is the first room.
        self.assertEqual(clash_of(house([(3, 0, -1, 5, 0), (9, 0, -1, 10, 0)]), [0, 1]), (0, 1))
        # 9 lies in 8, but the scopes are 3 and 8.
        self.assertIsNone(clash_of(house([(5, 0, 8, 5, 0), (9, 0, -1, 9, 0)]), [0, 1]))

    def test_first_two_of_several(self):
        # The scopes: 1, 2, 3, 3, 2, 1.
        chart = three([
            (4, 0, -1, 5, 0), (6, 0, -1, 7, 0), (8, 0, -1, 9, 0),
            (8, 0, -1, 8, 0), (6, 0, -1, 6, 0), (4, 0, -1, 4, 0),
        ])
        self.assertEqual(clash_of(chart, [0, 1, 2, 3, 4, 5]), (0, 5))
        self.assertEqual(clash_of(chart, [1, 2, 3, 4, 5]), (1, 4))
        self.assertEqual(clash_of(chart, [0, 1, 2, 3, 4]), (1, 4))
        self.assertEqual(clash_of(chart, [0, 2, 3]), (2, 3))
        self.assertIsNone(clash_of(chart, [0, 1, 2]))

    def test_least_second_number(self):
        chart = nested([(5, 0, -1, 6, 0), (3, 0, -1, 3, 0), (1, 0, -1, 1, 0)])
        self.assertEqual(clash_of(chart, [0, 1, 2]), (0, 1))
        self.assertEqual(clash_of(chart, [0, 2]), (0, 2))

    def test_numbers_stay_as_they_were(self):
        chart = pair([(1, 0, -1, 2, 0)] * 3)
        numbers = [0, 1, 2]
        self.assertEqual(clash_of(chart, numbers), (0, 1))
        self.assertEqual(numbers, [0, 1, 2])

    def test_pair_is_a_tuple(self):
        self.assertIsInstance(clash_of(pair([(1, 0, -1, 2, 0)] * 2), [0, 1]), tuple)


if __name__ == "__main__":
    unittest.main()
