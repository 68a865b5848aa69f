"""Points 1, 18 and 19: states alike, rows of events that part two states, and the leaned machine."""

import unittest

from charts import deeds_from
from chartfold.folding import Flat, flat_run, folded
from chartfold.leaning import alike, leaned, parted
from chartfold.rooms import Chart


def machine(rows):
    """A flat machine with marks as its states and ways: what stands there says which state it was."""
    count = len(rows)
    return Flat([f"state {number}" for number in range(count)], rows, [(number,) for number in range(count)])


def quiet(*numbers):
    """A row without deeds: the states behind the events 0 to 3."""
    return [(number, ()) for number in numbers]


def chain(count):
    """Event 2 leads from each state to the one behind it; the last one alone has a deed, for event 1."""
    rows = [quiet(number, number, number + 1, number) for number in range(count - 1)]
    last = count - 1
    return machine(rows + [[(last, ()), (last, (7,)), (last, ()), (last, ())]])


class Alike(unittest.TestCase):
    def test_one_state(self):
        self.assertEqual(alike(machine([quiet(0, 0, 0, 0)])), [0])
        self.assertEqual(alike(machine([[(0, (1,))] * 4])), [0])

    def test_no_deeds_at_all(self):
        rows = [quiet(1, 2, 0, 3), quiet(2, 2, 2, 2), quiet(0, 1, 2, 3), quiet(3, 3, 3, 3)]
        self.assertEqual(alike(machine(rows)), [0] * 4)

    def test_parted_at_once(self):
        for event in range(4):
            rows = [quiet(0, 0, 0, 0), quiet(0, 0, 0, 0)]
            rows[1][event] = (0, (0,))
            self.assertEqual(alike(machine(rows)), [0, 1])

    def test_deeds_in_another_order_or_number(self):
        for one, other in (((1, 2), (2, 1)), ((), (0,)), ((1,), (1, 1)), ((12,), (1, 2))):
            rows = [quiet(0, 0, 0, 0), quiet(0, 0, 0, 0)]
            rows[0][2], rows[1][2] = (0, one), (0, other)
            self.assertEqual(alike(machine(rows)), [0, 1])
            self.assertEqual(parted(machine(rows), 0, 1), (2,))

    def test_parted_behind_other_events(self):
        # 0 and 1 lead by event 3 to 2 and 3, which event 0 parts; 0 and 2 never have a deed.
        rows = [quiet(0, 0, 0, 2), quiet(1, 1, 1, 3), quiet(2, 2, 2, 2), [(3, (5,))] + quiet(3, 3, 3)]
        self.assertEqual(alike(machine(rows)), [0, 1, 0, 3])

    def test_same_deeds_behind_other_states(self):
        # 0 and 2 do the same by turns, as do 1 and 3.
        rows = [
            [(1, (4,))] + quiet(0, 0, 0), [(2, (5,))] + quiet(1, 1, 1),
            [(3, (4,))] + quiet(2, 2, 2), [(0, (5,))] + quiet(3, 3, 3),
        ]
        self.assertEqual(alike(machine(rows)), [0, 1, 0, 1])

    def test_least_number_of_the_group(self):
        loud = [(0, (1,))] * 4
        rows = [quiet(0, 0, 0, 0), loud, quiet(4, 4, 0, 2), loud, quiet(2, 0, 4, 0), [(0, (2,))] * 4, loud]
        self.assertEqual(alike(machine(rows)), [0, 1, 0, 1, 0, 5, 1])

    def test_states_are_not_looked_at(self):
        rows = [quiet(0, 0, 0, 0), quiet(1, 1, 1, 1), [(2, (1,))] * 4]
        self.assertEqual(alike(Flat([["a"], ["b"], ["a"]], rows, [(), (0,), (1,)])), [0, 0, 2])
        self.assertEqual(alike(Flat([None, None, None], rows, [(), (), ()])), [0, 0, 2])

    def test_state_that_nothing_leads_to(self):
        rows = [quiet(0, 0, 0, 0), quiet(0, 0, 0, 0), [(0, (3,))] * 4]
        self.assertEqual(alike(machine(rows)), [0, 0, 2])

    def test_thirty_states_and_more(self):
        for count in (30, 34):
            self.assertEqual(alike(chain(count)), list(range(count)))
            self.assertEqual(alike(machine([quiet(0, number, 1, number) for number in range(count)])), [0] * count)

    def test_nothing_is_changed(self):
        flat = chain(5)
        rows, states, ways = [list(row) for row in flat.rows], list(flat.states), list(flat.ways)
        alike(flat).append("mine")
        parted(flat, 0, 1)
        self.assertEqual((flat.rows, flat.states, flat.ways), (rows, states, ways))
        self.assertEqual(alike(flat), [0, 1, 2, 3, 4])


class Parted(unittest.TestCase):
    def test_a_state_and_itself(self):
        for number in range(4):
            self.assertIsNone(parted(chain(4), number, number))

    def test_states_that_no_row_parts(self):
        # The two lead to each other, so the walk comes round to the same pair, and to it turned about.
        flat = machine([quiet(1, 0, 1, 0), quiet(0, 0, 0, 1)])
        self.assertIsNone(parted(flat, 0, 1))
        self.assertIsNone(parted(flat, 1, 0))

    def test_each_single_event(self):
        for event in range(4):
            rows = [quiet(0, 0, 0, 0), quiet(0, 0, 0, 0)]
            rows[1][event] = (0, (0,))
            self.assertEqual(parted(machine(rows), 0, 1), (event,))
            self.assertEqual(parted(machine(rows), 1, 0), (event,))
            self.assertIsInstance(parted(machine(rows), 0, 1), tuple)

    def test_least_of_several_events(self):
        rows = [[(0, (1,))] * 4, [(0, (1,)), (0, (2,)), (0, (2,)), (0, (2,))]]
        self.assertEqual(parted(machine(rows), 0, 1), (1,))

    def test_shorter_row_ahead_of_a_lesser_one(self):
        # 0, 0 parts 0 and 1, and so does 3.
        rows = [quiet(2, 0, 0, 0), quiet(3, 0, 0) + [(0, (6,))], quiet(2, 2, 2, 2), [(3, (5,))] + quiet(3, 3, 3)]
        self.assertEqual(parted(machine(rows), 0, 1), (3,))

    def test_first_of_the_shortest_rows(self):
        # 0, 3 parts 0 and 1, and so do 1, 0 and 2, 0.
        rows = [
            quiet(2, 4, 4, 0), quiet(3, 5, 5, 1), quiet(2, 2, 2, 2), quiet(3, 3, 3) + [(3, (5,))],
            quiet(4, 4, 4, 4), [(5, (5,))] + quiet(5, 5, 5),
        ]
        self.assertEqual(parted(machine(rows), 0, 1), (0, 3))

    def test_first_row_to_the_same_pair(self):
        # The events 1 and 2 both lead to the pair of 2 and 3, which event 3 parts.
        rows = [quiet(0, 2, 2, 0), quiet(1, 3, 3, 1), quiet(2, 2, 2, 2), quiet(3, 3, 3) + [(3, (5,))]]
        self.assertEqual(parted(machine(rows), 0, 1), (1, 3))

    def test_state_of_one_and_of_the_other(self):
        # Event 0 leads the one to where the other begins.
        flat = chain(3)
        self.assertEqual(parted(flat, 1, 2), (1,))
        self.assertEqual(parted(flat, 0, 1), (2, 1))
        self.assertEqual(parted(flat, 0, 2), (1,))

    def test_long_row(self):
        for count in (30, 34):
            flat = chain(count)
            self.assertEqual(parted(flat, 0, 1), (2,) * (count - 2) + (1,))
            self.assertEqual(parted(flat, 1, 0), (2,) * (count - 2) + (1,))

    def test_difference_is_at_the_last_event(self):
        flat = chain(9)
        for one in range(9):
            for other in range(one):
                row = parted(flat, one, other)
                self.assertEqual(deeds_from(flat, one, row[:-1]), deeds_from(flat, other, row[:-1]))
                self.assertNotEqual(deeds_from(flat, one, row), deeds_from(flat, other, row))

    def test_pair_turned_about_parts_no_less(self):
        # 0 and 1 change places by event 0, and event 1 then leads to what event 2 parts: it does so at once too.
        rows = [quiet(1, 2, 0, 0), quiet(0, 3, 1, 1), quiet(2, 2, 2, 2), quiet(3, 3) + [(3, (5,)), (3, ())]]
        self.assertEqual(parted(machine(rows), 0, 1), (1, 2))


class Leaned(unittest.TestCase):
    def assert_leaned(self, flat, left, rows):
        lean = leaned(flat)
        self.assertIsInstance(lean, Flat)
        self.assertEqual(lean.states, [flat.states[number] for number in left])
        self.assertEqual(lean.rows, rows)
        self.assertEqual(lean.ways, [flat.ways[number] for number in left])

    def test_one_state(self):
        self.assert_leaned(machine([[(0, (3,))] * 4]), [0], [[(0, (3,))] * 4])

    def test_all_alike(self):
        self.assert_leaned(machine([quiet(1, 2, 0, 1), quiet(2, 2, 2, 2), quiet(0, 0, 0, 0)]), [0], [quiet(0, 0, 0, 0)])

    def test_none_alike(self):
        flat = chain(4)
        self.assert_leaned(flat, [0, 1, 2, 3], flat.rows)

    def test_numbered_anew_in_their_order(self):
        # 0, 2 and 5 are alike, 1 and 4, 3 and 6; the entries lead to 2, 4, 5 and 6 in places.
        flat = machine([
            [(4, (1,)), (5, ()), (6, ()), (2, ())],
            [(2, (2,)), (4, ()), (3, ()), (6, ())],
            [(1, (1,)), (2, ()), (3, ()), (5, ())],
            [(6, ()), (5, (3,)), (4, ()), (0, ())],
            [(5, (2,)), (1, ()), (6, ()), (3, ())],
            [(4, (1,)), (0, ()), (6, ()), (0, ())],
            [(3, ()), (2, (3,)), (1, ()), (5, ())],
        ])
        self.assertEqual(alike(flat), [0, 1, 0, 3, 1, 0, 3])
        self.assert_leaned(flat, [0, 1, 3], [
            [(1, (1,)), (0, ()), (2, ()), (0, ())],
            [(0, (2,)), (1, ()), (2, ()), (2, ())],
            [(2, ()), (0, (3,)), (1, ()), (0, ())],
        ])

    def test_gap_ahead_of_a_state_that_is_left(self):
        flat = machine([quiet(1, 2, 2, 0), quiet(0, 2, 2, 1), [(2, (8,)), (3, ()), (1, ()), (0, ())], [(3, (9,))] * 4])
        self.assert_leaned(flat, [0, 2, 3], [
            quiet(0, 1, 1, 0), [(1, (8,)), (2, ()), (0, ()), (0, ())], [(2, (9,))] * 4,
        ])

    def test_state_that_nothing_leads_to_is_left(self):
        flat = machine([quiet(0, 0, 0, 0), quiet(0, 0, 0, 0), [(1, (3,))] * 4])
        self.assert_leaned(flat, [0, 2], [quiet(0, 0, 0, 0), [(0, (3,))] * 4])

    def test_leaned_again(self):
        lean = leaned(machine([quiet(1, 0, 1, 1), quiet(0, 0, 2, 1), [(0, (1,))] * 4, quiet(1, 1, 1, 0)]))
        again = leaned(lean)
        self.assertEqual((again.states, again.rows, again.ways), (lean.states, lean.rows, lean.ways))

    def test_folded_chart(self):
        # Rooms 2 and 3 do the same, but for the deed that leads to them.
        rooms = [(-1, "one")] + [(0, "plain")] * 3
        chart = Chart(rooms, [(1, 0, -1, 2, 1), (1, 1, -1, 3, 2), (2, 3, -1, 1, 5), (3, 3, -1, 1, 5)])
        flat = folded(chart)
        lean = leaned(flat)
        self.assertEqual(alike(flat), [0, 1, 1])
        self.assertEqual(lean.states, flat.states[:2])
        self.assertEqual(lean.ways, [(), (0,)])
        self.assertEqual(flat_run(lean, [1, 3, 0, 3]), (0, [(2,), (5,), (1,), (5,)]))

    def test_more_than_thirty_states(self):
        self.assertEqual(len(leaned(chain(34)).rows), 34)

    def test_machine_stays_as_it_was(self):
        flat = machine([quiet(1, 0, 1, 1), quiet(0, 0, 0, 1)])
        rows, states, ways = [list(row) for row in flat.rows], list(flat.states), list(flat.ways)
        leaned(flat)
        self.assertEqual((flat.rows, flat.states, flat.ways), (rows, states, ways))

    def test_lists_are_the_askers_own(self):
        flat = chain(3)
        rows, states, ways = [list(row) for row in flat.rows], list(flat.states), list(flat.ways)
        lean = leaned(flat)
        self.assertIsNot(lean, flat)
        lean.rows[0][0] = "mine"
        lean.rows.append("mine")
        lean.states.clear()
        lean.ways.append("mine")
        self.assertEqual((flat.rows, flat.states, flat.ways), (rows, states, ways))
        self.assertEqual(leaned(flat).rows, rows)


if __name__ == "__main__":
    unittest.main()
