"""Points 1 to 3, 8 and 9: the chart, where its rooms lie, and its arrows' scopes."""

import unittest

from charts import HOUSE, NESTED, PAIR, house, nested, pair, three
from chartfold.errors import BadChart
from chartfold.rooms import Chart, children, scope, within

ARROW = (1, 0, -1, 2, 0)


def deep(count):
    """So many rooms, each in the one ahead of it."""
    return [(number - 1, "one") for number in range(count - 1)] + [(count - 2, "plain")]


def broad(count):
    return [(-1, "one")] + [(0, "plain")] * (count - 1)


class ChartCase(unittest.TestCase):
    def assert_refused(self, rooms, arrows):
        with self.assertRaises(BadChart):
            Chart(rooms, arrows)

    def assert_made(self, rooms, arrows):
        chart = Chart(rooms, arrows)
        self.assertEqual(chart.rooms, rooms)
        self.assertEqual(chart.arrows, arrows)
        self.assertIsInstance(chart.rooms, list)
        self.assertIsInstance(chart.arrows, list)


class RoomBounds(ChartCase):
    def test_one_room(self):
        self.assert_made([(-1, "plain")], [])

    def test_sixteen_rooms(self):
        self.assert_made(broad(16), [])
        self.assert_made(deep(16), [])

    def test_no_room(self):
        self.assert_refused([], [])
        self.assert_refused([], [ARROW])

    def test_seventeen_rooms(self):
        self.assert_refused(broad(17), [])
        self.assert_refused(deep(17), [])

    def test_first_holder(self):
        for holder in (-2, 0, 1, 2, 16, 10 ** 20):
            with self.subTest(holder=holder):
                self.assert_refused([(holder, "plain")], [])
                self.assert_refused([(holder, "one"), (0, "plain"), (0, "plain")], [])

    def test_holder_that_is_not_ahead(self):
        for holder in (-2, -1, 2, 3, 4, 16, 10 ** 20):
            with self.subTest(holder=holder):
                self.assert_refused([(-1, "one"), (0, "one"), (holder, "plain"), (1, "plain")], [])

    def test_room_in_itself(self):
        self.assert_refused([(-1, "one"), (0, "plain"), (2, "one")], [])

    def test_holder_just_ahead_and_first(self):
        self.assert_made([(-1, "one"), (0, "one"), (1, "plain"), (0, "plain")], [])


class Kinds(ChartCase):
    def test_each_kind(self):
        for kind in ("one", "all", "keep"):
            with self.subTest(kind=kind):
                self.assert_made([(-1, kind), (0, "plain")], [])
                self.assert_made([(-1, "one"), (0, kind), (1, "plain")], [])

    def test_another_kind(self):
        for kind in ("", "Plain", "plain ", " one", "ONE", "pla", "onee", "any", "kept", "none"):
            with self.subTest(kind=kind):
                self.assert_refused([(-1, kind)], [])
                self.assert_refused([(-1, kind), (0, "plain")], [])
                self.assert_refused([(-1, "one"), (0, kind)], [])

    def test_room_in_a_plain_room(self):
        self.assert_refused([(-1, "plain"), (0, "plain")], [])
        self.assert_refused([(-1, "one"), (0, "plain"), (1, "plain")], [])
        self.assert_refused([(-1, "all"), (0, "plain"), (0, "plain"), (2, "plain")], [])

    def test_no_room_in_a_room_of_another_kind(self):
        for kind in ("one", "all", "keep"):
            with self.subTest(kind=kind):
                self.assert_refused([(-1, kind)], [])
                self.assert_refused([(-1, "one"), (0, kind)], [])
                self.assert_refused([(-1, "one"), (0, kind), (0, "one"), (2, "plain")], [])


class ArrowBounds(ChartCase):
    def assert_arrow_made(self, arrow):
        self.assert_made(HOUSE, [arrow])

    def assert_arrow_refused(self, arrow):
        self.assert_refused(HOUSE, [arrow])
        self.assert_refused(HOUSE, [ARROW, arrow])
        self.assert_refused(HOUSE, [arrow, ARROW])

    def test_no_arrow_and_twenty(self):
        self.assert_made(PAIR, [])
        self.assert_made(PAIR, [ARROW] * 20)

    def test_twenty_one_arrows(self):
        self.assert_refused(PAIR, [ARROW] * 21)

    def test_each_number_at_its_bounds(self):
        for arrow in (
            (10, 0, -1, 1, 0), (1, 0, -1, 10, 0), (10, 0, -1, 10, 0), (1, 0, -1, 2, 0), (1, 3, -1, 2, 0),
            (1, 0, 0, 2, 0), (1, 0, 10, 2, 0), (1, 0, -1, 2, 99), (10, 3, 10, 10, 99),
        ):
            with self.subTest(arrow=arrow):
                self.assert_arrow_made(arrow)

    def test_each_number_beyond_its_bounds(self):
        for arrow in (
            (-1, 0, -1, 2, 0), (-2, 0, -1, 2, 0), (11, 0, -1, 2, 0), (12, 0, -1, 2, 0),
            (1, -1, -1, 2, 0), (1, 4, -1, 2, 0), (1, 5, -1, 2, 0),
            (1, 0, -2, 2, 0), (1, 0, -3, 2, 0), (1, 0, 11, 2, 0), (1, 0, 16, 2, 0),
            (1, 0, -1, -1, 0), (1, 0, -1, -2, 0), (1, 0, -1, 11, 0), (1, 0, -1, 12, 0),
            (1, 0, -1, 2, -1), (1, 0, -1, 2, 100), (1, 0, -1, 2, 1000),
        ):
            with self.subTest(arrow=arrow):
                self.assert_arrow_refused(arrow)

    def test_number_far_beyond_its_bounds(self):
        for number in (10 ** 5000, -10 ** 5000):
            for place in range(5):
                self.assert_arrow_refused(ARROW[:place] + (number,) + ARROW[place + 1:])

    def test_alike_arrows_and_the_same_source_and_target(self):
        self.assert_made(HOUSE, [ARROW, ARROW, (9, 1, -1, 9, 5)])

    def test_source_and_target_of_which_one_lies_in_the_other(self):
        self.assert_made(HOUSE, [(2, 0, -1, 9, 0), (9, 0, -1, 2, 0), (8, 1, -1, 10, 1)])

    def test_arrow_without_a_scope(self):
        for arrow in ((0, 0, -1, 1, 0), (1, 0, -1, 0, 0), (0, 0, -1, 0, 0), (0, 0, -1, 10, 0)):
            with self.subTest(arrow=arrow):
                self.assert_arrow_refused(arrow)
        self.assert_refused([(-1, "plain")], [(0, 0, -1, 0, 0)])
        self.assert_refused([(-1, "all"), (0, "plain"), (0, "plain")], [(1, 0, -1, 2, 0)])
        self.assert_refused([(-1, "all"), (0, "one"), (0, "plain"), (1, "plain")], [(3, 0, -1, 2, 0)])
        self.assert_refused([(-1, "all"), (0, "one"), (0, "plain"), (1, "plain")], [(3, 0, -1, 1, 0)])

    def test_bad_rooms_with_bad_arrows(self):
        self.assert_refused([(-1, "one"), (7, "plain")], [(1, 0, -1, 7, 0)])


class Kept(unittest.TestCase):
    def test_lists_handed_in_stay_as_they_were(self):
        rooms, arrows = list(HOUSE), [ARROW, (2, 1, 4, 9, 7)]
        Chart(rooms, arrows)
        self.assertEqual(rooms, HOUSE)
        self.assertEqual(arrows, [ARROW, (2, 1, 4, 9, 7)])

    def test_chart_stays_as_told(self):
        rooms, arrows = list(HOUSE), [ARROW]
        chart = Chart(rooms, arrows)
        rooms[0] = (-1, "all")
        rooms.append((0, "plain"))
        arrows[0] = (9, 0, -1, 10, 3)
        arrows.clear()
        self.assertEqual(chart.rooms, HOUSE)
        self.assertEqual(chart.arrows, [ARROW])
        self.assertEqual(children(chart, 0), [1, 2])

    def test_two_charts_share_nothing(self):
        first, second = Chart(PAIR, [ARROW]), Chart(PAIR, [ARROW])
        self.assertIsNot(first.rooms, second.rooms)
        self.assertIsNot(first.arrows, second.arrows)


class Children(unittest.TestCase):
    def test_rooms_straight_in_each_room(self):
        chart = house([])
        told = {0: [1, 2], 2: [3, 4], 3: [5, 6], 4: [7, 8], 8: [9, 10]}
        for room in range(11):
            self.assertEqual(children(chart, room), told.get(room, []))

    def test_numbers_that_lie_apart(self):
        chart = Chart([(-1, "all"), (0, "one"), (1, "plain"), (0, "plain"), (1, "plain")], [])
        self.assertEqual(children(chart, 0), [1, 3])
        self.assertEqual(children(chart, 1), [2, 4])

    def test_list_is_the_askers_own(self):
        chart = house([])
        children(chart, 0).append(9)
        children(chart, 5).append(9)
        self.assertEqual(children(chart, 0), [1, 2])
        self.assertEqual(children(chart, 5), [])


class Within(unittest.TestCase):
    def test_every_pair(self):
        chart = house([])
        outer = {
            0: {0}, 1: {0, 1}, 2: {0, 2}, 3: {0, 2, 3}, 4: {0, 2, 4}, 5: {0, 2, 3, 5}, 6: {0, 2, 3, 6},
            7: {0, 2, 4, 7}, 8: {0, 2, 4, 8}, 9: {0, 2, 4, 8, 9}, 10: {0, 2, 4, 8, 10},
        }
        for room in range(11):
            for other in range(11):
                with self.subTest(room=room, other=other):
                    self.assertIs(within(chart, room, other), other in outer[room])

    def test_sixteen_deep(self):
        chart = Chart(deep(16), [])
        self.assertIs(within(chart, 15, 0), True)
        self.assertIs(within(chart, 0, 15), False)


class Scope(unittest.TestCase):
    def test_innermost_choosing_room(self):
        chart = house([])
        for source, target, told in ((1, 2, 0), (5, 6, 3), (9, 10, 8), (7, 10, 4), (1, 9, 0)):
            with self.subTest(source=source, target=target):
                self.assertEqual(scope(chart, source, target), told)
                self.assertEqual(scope(chart, target, source), told)

    def test_all_rooms_are_passed_over(self):
        self.assertEqual(scope(house([]), 5, 9), 0)
        self.assertEqual(scope(house([]), 3, 4), 0)

    def test_keep_room_is_a_scope(self):
        self.assertEqual(scope(nested([]), 5, 6), 4)
        self.assertEqual(scope(nested([]), 3, 6), 2)

    def test_same_source_and_target(self):
        chart = house([])
        for room, told in ((1, 0), (2, 0), (3, 0), (4, 0), (5, 3), (7, 4), (8, 4), (9, 8)):
            with self.subTest(room=room):
                self.assertEqual(scope(chart, room, room), told)

    def test_one_in_the_other_is_neither_of_them(self):
        chart = house([])
        for source, target, told in ((8, 9, 4), (4, 9, 0), (4, 7, 0), (2, 10, 0), (3, 5, 0)):
            with self.subTest(source=source, target=target):
                self.assertEqual(scope(chart, source, target), told)
                self.assertEqual(scope(chart, target, source), told)

    def test_none(self):
        for room in range(11):
            self.assertIsNone(scope(house([]), 0, room))
            self.assertIsNone(scope(house([]), room, 0))
        self.assertIsNone(scope(three([]), 4, 6))
        self.assertIsNone(scope(three([]), 1, 1))
        self.assertIsNone(scope(three([]), 1, 4))
        self.assertIsNone(scope(Chart([(-1, "plain")], []), 0, 0))

    def test_first_room_is_a_scope_too(self):
        self.assertEqual(scope(pair([]), 1, 2), 0)
        self.assertEqual(scope(pair([]), 1, 1), 0)


if __name__ == "__main__":
    unittest.main()
