"""Points 1 and 15 to 17: flat machines, how a chart is folded into one, and what is refused."""

import unittest

from charts import house, nested, pair, three
from chartfold.errors import Clash, TooMany
from chartfold.folding import Flat, flat_run, folded
from chartfold.keeping import run, started
from chartfold.rooms import Chart

STAY = [(0, ())] * 4


def rounds(sizes, events, more):
    """0 one: 1 all, 2 plain; in 1 a one room for each size, with so many plain rooms that its event leads round.

    The plain rooms begin with 3 and the number of sizes. No arrow leads to 2, if not one of those that are added.
    """
    rooms = [(-1, "one"), (0, "all"), (0, "plain")] + [(1, "one")] * len(sizes)
    arrows = []
    for number, (size, event) in enumerate(zip(sizes, events)):
        first = len(rooms)
        rooms += [(3 + number, "plain")] * size
        arrows += [(first + place, event, -1, first + (place + 1) % size, number) for place in range(size)]
    return Chart(rooms, arrows + more)


class Machines(unittest.TestCase):
    def test_fields(self):
        states, rows, ways = ["a", None], [[(1, (5,))] * 4, [(0, ())] * 4], [(), (0,)]
        flat = Flat(states, rows, ways)
        self.assertEqual((flat.states, flat.rows, flat.ways), (states, rows, ways))
        for field in (flat.states, flat.rows, flat.ways, flat.rows[0]):
            self.assertIsInstance(field, list)

    def test_machine_stays_as_told(self):
        states, rows, ways = ["a"], [list(STAY)], [()]
        flat = Flat(states, rows, ways)
        states.append("b")
        rows[0][1] = (7, (7,))
        rows.append([])
        ways.clear()
        self.assertEqual((flat.states, flat.rows, flat.ways), (["a"], [STAY], [()]))

    def test_lists_handed_in_stay_as_they_were(self):
        states, rows, ways = ["a"], [list(STAY)], [()]
        flat = Flat(states, rows, ways)
        flat.states.append("b")
        flat.rows[0][1] = (7, (7,))
        flat.ways.clear()
        self.assertEqual((states, rows, ways), (["a"], [STAY], [()]))

    def test_bounds_refuse_nothing(self):
        self.assertEqual(len(Flat([0] * 34, [STAY] * 34, [()] * 34).rows), 34)
        self.assertEqual(Flat([], [], []).states, [])


class Folding(unittest.TestCase):
    def assert_flat(self, chart, states, rows, ways):
        flat = folded(chart)
        self.assertIsInstance(flat, Flat)
        self.assertEqual((flat.states, flat.rows, flat.ways), (states, rows, ways))

    def test_one_room(self):
        self.assert_flat(Chart([(-1, "plain")], []), [((0,), (-1,))], [STAY], [()])

    def test_one_state(self):
        chart = nested([(2, 0, -1, 1, 5)])
        self.assert_flat(chart, [started(chart)], [STAY], [()])
        self.assert_flat(pair([(1, 1, -1, 1, 5)]), [started(pair([]))], [[(0, ()), (0, (5,)), (0, ()), (0, ())]], [()])

    def test_two_states(self):
        memory = (-1, -1, -1)
        self.assert_flat(
            pair([(1, 0, -1, 2, 42), (2, 3, -1, 1, 43)]),
            [((0, 1), memory), ((0, 2), memory)],
            [[(1, (42,)), (0, ()), (0, ()), (0, ())], [(1, ()), (1, ()), (1, ()), (0, (43,))]],
            [(), (0,)],
        )

    def test_states_are_numbered_as_they_are_met(self):
        # The greater the event, the lesser the room that it leads to: numbers go by events, not by rooms.
        rooms = [(-1, "one")] + [(0, "plain")] * 5
        chart = Chart(rooms, [(1, 3, -1, 2, 0), (1, 2, -1, 3, 0), (1, 0, -1, 4, 0), (4, 1, -1, 5, 0)])
        flat = folded(chart)
        self.assertEqual([state[0] for state in flat.states], [(0, 1), (0, 4), (0, 3), (0, 2), (0, 5)])
        self.assertEqual(flat.ways, [(), (0,), (2,), (3,), (0, 1)])
        self.assertEqual([entry[0] for entry in flat.rows[0]], [1, 0, 2, 3])
        self.assertEqual([entry[0] for entry in flat.rows[1]], [1, 4, 1, 1])

    def test_shortest_way_counts(self):
        # 3 is met by 0, 0 and by 3: the shorter one counts, though its event is the greater one.
        rooms = [(-1, "one")] + [(0, "plain")] * 3
        flat = folded(Chart(rooms, [(1, 0, -1, 2, 0), (2, 0, -1, 3, 0), (1, 3, -1, 3, 0)]))
        self.assertEqual(flat.ways, [(), (0,), (3,)])

    def test_first_of_the_shortest_ways_counts(self):
        # 4 is met by 0, 3 and by 1, 0.
        rooms = [(-1, "one")] + [(0, "plain")] * 4
        flat = folded(Chart(rooms, [(1, 1, -1, 2, 0), (1, 0, -1, 3, 0), (2, 0, -1, 4, 0), (3, 3, -1, 4, 0)]))
        self.assertEqual(flat.ways, [(), (0,), (1,), (0, 3)])
        self.assertEqual([state[0] for state in flat.states], [(0, 1), (0, 3), (0, 2), (0, 4)])

    def test_same_rooms_with_another_memory_are_another_state(self):
        flat = folded(nested([(1, 0, -1, 2, 1), (2, 1, -1, 1, 2), (3, 2, -1, 4, 3)]))
        self.assertEqual([state[0] for state in flat.states], [(0, 1), (0, 2, 3), (0, 2, 4, 5), (0, 1)])
        self.assertEqual([state[1][2] for state in flat.states], [3, 3, 4, 4])
        self.assertEqual(flat.rows[2], [(2, ()), (3, (2,)), (2, ()), (2, ())])
        self.assertEqual(flat.rows[3], [(2, (1,)), (3, ()), (3, ()), (3, ())])
        self.assertEqual(flat.ways, [(), (0,), (0, 2), (0, 2, 1)])

    def test_deeds_of_several_arrows(self):
        flat = folded(three([(8, 2, -1, 9, 70), (4, 2, -1, 5, 80), (6, 2, 4, 7, 70)]))
        self.assertEqual(flat.rows[0], [(0, ()), (0, ()), (1, (70, 80, 70)), (0, ())])
        self.assertEqual(flat.rows[1], [(1, ())] * 4)

    def test_thirty_states(self):
        flat = folded(rounds((2, 3, 5), (0, 1, 2), []))
        self.assertEqual((len(flat.states), len(flat.rows), len(flat.ways)), (30, 30, 30))
        self.assertEqual(flat.ways[29], (0, 1, 1, 2, 2, 2, 2))
        self.assertEqual(flat.states[29][0], (0, 1, 3, 4, 5, 7, 10, 15))
        self.assertEqual(sorted(set(entry[0] for row in flat.rows for entry in row)), list(range(30)))

    def test_kinds(self):
        flat = folded(house([(1, 0, -1, 2, 0)]))
        for row in flat.rows:
            self.assertIsInstance(row, list)
            self.assertEqual(len(row), 4)
            for entry in row:
                self.assertIsInstance(entry, tuple)
                self.assertIsInstance(entry[1], tuple)
        for way, state in zip(flat.ways, flat.states):
            self.assertIsInstance(way, tuple)
            self.assertIsInstance(state, tuple)

    def test_chart_stays_as_it_was(self):
        chart = rounds((2, 3), (0, 1), [(1, 3, -1, 2, 9)])
        rooms, arrows = list(chart.rooms), list(chart.arrows)
        folded(chart)
        self.assertEqual((chart.rooms, chart.arrows), (rooms, arrows))

    def test_lists_are_the_askers_own(self):
        chart = pair([(1, 0, -1, 2, 42)])
        flat, again = folded(chart), folded(chart)
        flat.rows[0][0] = (0, ())
        flat.rows.pop()
        flat.states.clear()
        flat.ways.append((9,))
        third = folded(chart)
        for other in (again, third):
            self.assertEqual(other.rows[0][0], (1, (42,)))
            self.assertEqual((len(other.states), len(other.rows), other.ways), (2, 2, [(), (0,)]))
        self.assertEqual(run(chart, [0]), (((0, 2), (-1, -1, -1)), [(42,)]))

    def test_rows_share_no_list(self):
        flat = folded(rounds((2, 2), (0, 1), []))
        flat.rows[0][0] = "mine"
        self.assertNotIn("mine", flat.rows[1] + flat.rows[2] + flat.rows[3])


class Refusals(unittest.TestCase):
    def assert_clash(self, chart, events, first, second):
        with self.assertRaises(Clash) as caught:
            folded(chart)
        refusal = caught.exception
        self.assertEqual((refusal.events, refusal.first, refusal.second), (events, first, second))
        self.assertIsInstance(refusal.events, tuple)

    def assert_too_many(self, chart):
        with self.assertRaises(TooMany):
            folded(chart)

    def test_clash_in_the_first_state(self):
        self.assert_clash(pair([(1, 3, -1, 2, 0), (1, 3, -1, 1, 0)]), (3,), 0, 1)
        self.assert_clash(pair([(1, 0, -1, 2, 0)] * 3), (0,), 0, 1)

    def test_clash_behind_a_way(self):
        chart = pair([(1, 2, -1, 2, 0), (2, 1, -1, 1, 0), (1, 1, -1, 1, 0), (2, 1, -1, 2, 0)])
        self.assert_clash(chart, (2, 1), 1, 3)

    def test_first_clash_on_the_walk(self):
        # In room 2 event 0 clashes, in room 3 event 1, in room 1 event 3: room 1 is walked first.
        rooms = [(-1, "one")] + [(0, "plain")] * 3
        later = [(1, 0, -1, 2, 0), (1, 1, -1, 3, 0)] + [(2, 0, -1, 1, 0)] * 2 + [(3, 1, -1, 1, 0)] * 2
        self.assert_clash(Chart(rooms, later + [(1, 3, -1, 1, 0)] * 2), (3,), 6, 7)
        self.assert_clash(Chart(rooms, later), (0, 0), 2, 3)

    def test_clash_on_the_shortest_way_to_its_state(self):
        # Room 2 is reached by 1 and, the longer way, by 0, 0.
        rooms = [(-1, "one")] + [(0, "plain")] * 3
        chart = Chart(rooms, [(1, 0, -1, 3, 0), (3, 0, -1, 2, 0), (1, 1, -1, 2, 0)] + [(2, 2, -1, 1, 0)] * 2)
        self.assert_clash(chart, (1, 2), 3, 4)

    def test_clash_that_no_walk_meets(self):
        chart = pair([(2, 0, -1, 1, 0)] * 2)
        self.assertEqual(len(folded(chart).states), 1)

    def test_clash_in_the_last_of_thirty_states(self):
        # The guard holds in two states; the one of them with the lesser number is met first.
        chart = rounds((2, 3, 5), (0, 1, 2), [(15, 3, 10, 14, 0)] * 2)
        self.assert_clash(chart, (1, 1, 2, 2, 2, 2, 3), 10, 11)

    def test_thirty_one_states(self):
        self.assert_too_many(rounds((2, 3, 5), (0, 1, 2), [(1, 3, -1, 2, 0)]))
        # Here the way out is met behind all others.
        self.assert_too_many(rounds((2, 3, 5), (0, 1, 2), [(15, 3, 10, 2, 0)]))

    def test_thirty_two_states(self):
        self.assert_too_many(rounds((2, 4, 4), (0, 1, 2), []))

    def test_clash_just_ahead_of_the_thirty_first_state(self):
        # The thirty-first state is met from the one behind 2, 2, 2, 3, 3 by event 3; there event 0 clashes.
        chart = rounds((2, 4, 4), (1, 2, 3), [(11, 0, 14, 8, 0)] * 2)
        self.assert_clash(chart, (2, 2, 2, 3, 3, 0), 10, 11)

    def test_clash_just_behind_the_thirty_first_state(self):
        # The same with event 3 for the clash, and 2 for the thirty-first state.
        self.assert_too_many(rounds((2, 4, 4), (0, 1, 2), [(11, 3, 14, 8, 0)] * 2))

    def test_clash_far_ahead_of_the_thirty_first_state(self):
        chart = rounds((2, 4, 4), (0, 1, 2), [(6, 3, 9, 7, 0)] * 2)
        self.assert_clash(chart, (1, 3), 10, 11)

    def test_clash_far_behind_the_thirty_first_state(self):
        # The clash is in the state that is the farthest of all.
        self.assert_too_many(rounds((2, 4, 4), (0, 1, 2), [(7, 3, 11, 6, 0), (15, 3, 11, 2, 0)]))


class FlatRuns(unittest.TestCase):
    FLAT = Flat(
        ["x", "x", ["y"]],
        [
            [(1, (4,)), (0, ()), (2, (5, 6)), (0, (7,))],
            [(1, ()), (2, (0,)), (0, ()), (1, (8,))],
            [(0, (9, 9)), (2, ()), (2, ()), (1, ())],
        ],
        [(), (0,), (2,)],
    )

    def test_no_event(self):
        self.assertEqual(flat_run(self.FLAT, []), (0, []))

    def test_each_event(self):
        for event, behind in enumerate(((1, [(4,)]), (0, [()]), (2, [(5, 6)]), (0, [(7,)]))):
            self.assertEqual(flat_run(self.FLAT, [event]), behind)

    def test_row_of_events(self):
        answer = flat_run(self.FLAT, [0, 1, 0, 2, 3, 2, 0, 3])
        self.assertEqual(answer, (1, [(4,), (0,), (9, 9), (5, 6), (), (), (4,), (8,)]))
        self.assertIsInstance(answer, tuple)
        self.assertIsInstance(answer[1], list)

    def test_event_that_no_arrow_can_have(self):
        chart = pair([(1, 0, -1, 2, 5), (2, 3, -1, 1, 6)])
        for event in (-5, -4, -1, 4, 5):
            self.assertEqual(run(chart, [0, event]), (((0, 2), (-1, -1, -1)), [(5,), ()]))
            self.assertEqual(flat_run(folded(chart), [0, event]), (1, [(5,), ()]))

    def test_nothing_is_changed(self):
        events = [0, 1, 0, 2]
        rows = [list(row) for row in self.FLAT.rows]
        answer = flat_run(self.FLAT, events)
        answer[1].append("mine")
        flat_run(self.FLAT, [])[1].append("mine")
        self.assertEqual(events, [0, 1, 0, 2])
        self.assertEqual(self.FLAT.rows, rows)
        self.assertEqual(flat_run(self.FLAT, []), (0, []))

    def test_ways_lead_to_their_states(self):
        flat = folded(rounds((2, 3, 5), (3, 0, 2), []))
        for number, way in enumerate(flat.ways):
            self.assertEqual(flat_run(flat, list(way))[0], number)


if __name__ == "__main__":
    unittest.main()
