"""Points 4 to 7: the kept rooms, the memory, how rooms are entered and how a chart begins."""

import unittest

from charts import HOUSE, house, memory_of, nested, three
from chartfold.keeping import started, stepped
from chartfold.rooms import Chart


class Beginning(unittest.TestCase):
    def test_single_plain_room(self):
        self.assertEqual(started(Chart([(-1, "plain")], [])), ((0,), (-1,)))

    def test_one_room_begins_with_the_least(self):
        self.assertEqual(started(house([])), ((0, 1), memory_of(11, {4: 7})))

    def test_all_room_begins_with_all(self):
        self.assertEqual(started(three([])), ((0, 1, 2, 3, 4, 6, 8), memory_of(10, {})))

    def test_keep_room_begins_with_the_least(self):
        chart = Chart([(-1, "keep"), (0, "keep"), (0, "plain"), (1, "plain"), (1, "plain")], [])
        self.assertEqual(started(chart), ((0, 1, 3), (1, 3, -1, -1, -1)))

    def test_keep_room_that_is_not_kept_remembers_the_least(self):
        self.assertEqual(started(nested([])), ((0, 1), (-1, -1, 3, -1, 5, -1, -1)))

    def test_kinds_within_each_other(self):
        # 0 all: 1 keep (3 all: 5, 6; 4), 2 one (7 keep: 9, 10; 8)
        rooms = [
            (-1, "all"), (0, "keep"), (0, "one"), (1, "all"), (1, "plain"), (3, "plain"),
            (3, "plain"), (2, "keep"), (2, "plain"), (7, "plain"), (7, "plain"),
        ]
        self.assertEqual(
            started(Chart(rooms, [])), ((0, 1, 2, 3, 5, 6, 7, 9), memory_of(11, {1: 3, 7: 9}))
        )

    def test_sixteen_deep(self):
        rooms = [(number - 1, "keep") for number in range(15)] + [(14, "plain")]
        self.assertEqual(started(Chart(rooms, [])), (tuple(range(16)), tuple(range(1, 16)) + (-1,)))

    def test_a_state_is_of_tuples(self):
        state = started(house([]))
        self.assertIsInstance(state, tuple)
        self.assertIsInstance(state[0], tuple)
        self.assertIsInstance(state[1], tuple)

    def test_kept_rooms_rise_where_entering_does_not(self):
        # 0 all: 1 one (4 plain), 2 plain, 3 one (5 plain): 4 is entered ahead of 2 and 3.
        rooms = [(-1, "all"), (0, "one"), (0, "plain"), (0, "one"), (1, "plain"), (3, "plain")]
        self.assertEqual(started(Chart(rooms, []))[0], (0, 1, 2, 3, 4, 5))


class Entering(unittest.TestCase):
    """One arrow from the first room in the house to a target: what is entered behind it."""

    def kept_behind(self, target, memory):
        chart = house([(1, 0, -1, target, 0)])
        return stepped(chart, ((0, 1), memory), 0)[0][0]

    def test_each_target_at_the_beginning(self):
        memory = memory_of(11, {4: 7})
        for target, kept in (
            (1, (0, 1)),
            (2, (0, 2, 3, 4, 5, 7)),
            (3, (0, 2, 3, 4, 5, 7)),
            (4, (0, 2, 3, 4, 5, 7)),
            (5, (0, 2, 3, 4, 5, 7)),
            (6, (0, 2, 3, 4, 6, 7)),
            (7, (0, 2, 3, 4, 5, 7)),
            (8, (0, 2, 3, 4, 5, 8, 9)),
            (9, (0, 2, 3, 4, 5, 8, 9)),
            (10, (0, 2, 3, 4, 5, 8, 10)),
        ):
            with self.subTest(target=target):
                self.assertEqual(self.kept_behind(target, memory), kept)

    def test_each_target_with_a_memory(self):
        memory = memory_of(11, {4: 8})
        for target, kept in (
            (2, (0, 2, 3, 4, 5, 8, 9)),
            (4, (0, 2, 3, 4, 5, 8, 9)),
            (6, (0, 2, 3, 4, 6, 8, 9)),
            (7, (0, 2, 3, 4, 5, 7)),
            (10, (0, 2, 3, 4, 5, 8, 10)),
        ):
            with self.subTest(target=target):
                self.assertEqual(self.kept_behind(target, memory), kept)

    def test_all_rooms_within_all_rooms_share_the_goal(self):
        # 0 one: 1 plain, 2 all (3 all (5 one: 8, 9; 6 keep: 10, 11), 4 one (7 plain, 12 plain))
        rooms = [
            (-1, "one"), (0, "plain"), (0, "all"), (2, "all"), (2, "one"), (3, "one"), (3, "keep"),
            (4, "plain"), (5, "plain"), (5, "plain"), (6, "plain"), (6, "plain"), (4, "plain"),
        ]
        memory = memory_of(13, {6: 10})
        for target, leaves in ((2, (7, 8, 10)), (9, (7, 9, 10)), (11, (7, 8, 11)), (12, (8, 10, 12))):
            with self.subTest(target=target):
                chart = Chart(rooms, [(1, 0, -1, target, 0)])
                kept = stepped(chart, ((0, 1), memory), 0)[0][0]
                self.assertEqual(kept, (0, 2, 3, 4, 5, 6) + leaves)

    def test_keep_room_on_the_way_goes_towards_the_goal(self):
        chart = nested([(1, 0, -1, 6, 0)])
        memory = (-1, -1, 3, -1, 5, -1, -1)
        self.assertEqual(
            stepped(chart, ((0, 1), memory), 0), (((0, 2, 4, 6), (-1, -1, 4, -1, 6, -1, -1)), (0,))
        )

    def test_remembered_at_every_depth(self):
        chart = nested([(1, 0, -1, 2, 0)])
        for outer, inner, kept in (
            (3, 5, (0, 2, 3)), (3, 6, (0, 2, 3)), (4, 5, (0, 2, 4, 5)), (4, 6, (0, 2, 4, 6)),
        ):
            with self.subTest(outer=outer, inner=inner):
                memory = (-1, -1, outer, -1, inner, -1, -1)
                self.assertEqual(stepped(chart, ((0, 1), memory), 0)[0], (kept, memory))

    def test_goal_that_is_a_keep_room_brings_what_it_remembers(self):
        chart = nested([(1, 0, -1, 4, 0)])
        memory = (-1, -1, 3, -1, 6, -1, -1)
        self.assertEqual(
            stepped(chart, ((0, 1), memory), 0)[0], ((0, 2, 4, 6), (-1, -1, 4, -1, 6, -1, -1))
        )

    def test_the_house_is_as_drawn(self):
        self.assertEqual(house([]).rooms, HOUSE)


if __name__ == "__main__":
    unittest.main()
