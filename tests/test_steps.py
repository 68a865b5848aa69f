"""Points 1 and 12 to 14: what an event does, what is remembered behind it, its deeds."""

import unittest

from charts import house, memory_of, nested, pair, three
from chartfold.errors import Clash
from chartfold.keeping import run, started, stepped
from chartfold.rooms import Chart


class Steps(unittest.TestCase):
    def test_one_arrow(self):
        chart = pair([(1, 2, -1, 2, 42)])
        self.assertEqual(stepped(chart, started(chart), 2), (((0, 2), (-1, -1, -1)), (42,)))

    def test_event_with_no_takeable_arrow(self):
        chart = house([(2, 0, -1, 1, 5), (1, 1, 2, 2, 6)])
        state = started(chart)
        for event in range(4):
            self.assertEqual(stepped(chart, state, event), (state, ()))

    def test_event_that_no_arrow_can_have(self):
        chart = pair([(1, 3, -1, 2, 42)])
        self.assertEqual(stepped(chart, started(chart), 4), (started(chart), ()))
        self.assertEqual(stepped(chart, started(chart), -1), (started(chart), ()))

    def test_all_takeable_arrows_at_once(self):
        chart = three([(8, 0, -1, 9, 70), (4, 0, -1, 5, 80), (6, 0, 4, 7, 70)])
        state, deeds = stepped(chart, started(chart), 0)
        self.assertEqual(state, ((0, 1, 2, 3, 5, 7, 9), memory_of(10, {})))
        self.assertEqual(deeds, (70, 80, 70))

    def test_deeds_by_numbers_of_arrows(self):
        chart = three([(4, 0, -1, 5, 9), (6, 1, -1, 7, 3), (8, 0, -1, 9, 1)])
        self.assertEqual(stepped(chart, started(chart), 0)[1], (9, 1))
        self.assertEqual(stepped(chart, started(chart), 1)[1], (3,))

    def test_guards_look_at_the_state_ahead(self):
        # Each guard is left by the other arrow.
        chart = three([(4, 0, 6, 5, 1), (6, 0, 4, 7, 2)])
        self.assertEqual(stepped(chart, started(chart), 0)[0][0], (0, 1, 2, 3, 5, 7, 8))

    def test_rooms_beside_the_scope_stay(self):
        chart = house([(9, 0, -1, 10, 0)])
        memory = memory_of(11, {4: 8})
        state = ((0, 2, 3, 4, 6, 8, 9), memory)
        self.assertEqual(stepped(chart, state, 0)[0], ((0, 2, 3, 4, 6, 8, 10), memory))

    def test_all_rooms_in_the_scope_are_left(self):
        # The arrow stays in the all room, but its scope is the first room: 6 and 8 are left too.
        chart = house([(6, 0, -1, 9, 0), (6, 1, -1, 4, 0), (6, 2, -1, 2, 0), (6, 3, -1, 1, 0)])
        state = ((0, 2, 3, 4, 6, 8, 10), memory_of(11, {4: 8}))
        for event, kept in (
            (0, (0, 2, 3, 4, 5, 8, 9)), (1, (0, 2, 3, 4, 5, 8, 9)), (2, (0, 2, 3, 4, 5, 8, 9)), (3, (0, 1)),
        ):
            with self.subTest(event=event):
                self.assertEqual(stepped(chart, state, event)[0], (kept, memory_of(11, {4: 8})))

    def test_from_a_room_to_itself(self):
        chart = house([(2, 0, -1, 2, 4), (8, 1, -1, 8, 5)])
        state = ((0, 2, 3, 4, 6, 8, 10), memory_of(11, {4: 8}))
        self.assertEqual(stepped(chart, state, 0), (((0, 2, 3, 4, 5, 8, 9), state[1]), (4,)))
        self.assertEqual(stepped(chart, state, 1), (((0, 2, 3, 4, 6, 8, 9), state[1]), (5,)))

    def test_inner_arrow_in_the_place_of_the_outer(self):
        chart = house([(2, 0, -1, 1, 10), (9, 0, -1, 10, 20)])
        inside = ((0, 2, 3, 4, 5, 8, 9), memory_of(11, {4: 8}))
        behind, deeds = stepped(chart, inside, 0)
        self.assertEqual((behind[0], deeds), ((0, 2, 3, 4, 5, 8, 10), (20,)))
        behind, deeds = stepped(chart, behind, 0)
        self.assertEqual((behind[0], deeds), ((0, 1), (10,)))

    def test_answer_is_of_tuples(self):
        answer = stepped(pair([(1, 0, -1, 2, 0)]), started(pair([])), 0)
        self.assertIsInstance(answer, tuple)
        self.assertIsInstance(answer[0], tuple)
        self.assertIsInstance(answer[0][0], tuple)
        self.assertIsInstance(answer[0][1], tuple)
        self.assertIsInstance(answer[1], tuple)


class Memory(unittest.TestCase):
    # 0: into 2; 1: out to 1; 2: from 3 to 6; 3: from 5 or 6 to the other.
    ARROWS = [
        (1, 0, -1, 2, 1), (2, 1, -1, 1, 2), (3, 2, -1, 6, 3), (6, 3, -1, 5, 4), (5, 3, -1, 6, 5), (4, 2, -1, 3, 6),
    ]

    def state_behind(self, events):
        return run(nested(self.ARROWS), events)[0]

    def test_entered_for_the_first_time(self):
        self.assertEqual(self.state_behind([0]), ((0, 2, 3), (-1, -1, 3, -1, 5, -1, -1)))

    def test_move_within_is_remembered(self):
        self.assertEqual(self.state_behind([0, 2]), ((0, 2, 4, 6), (-1, -1, 4, -1, 6, -1, -1)))
        self.assertEqual(self.state_behind([0, 2, 3]), ((0, 2, 4, 5), (-1, -1, 4, -1, 5, -1, -1)))

    def test_left_room_remembers(self):
        self.assertEqual(self.state_behind([0, 2, 1]), ((0, 1), (-1, -1, 4, -1, 6, -1, -1)))

    def test_entered_again_at_two_depths(self):
        self.assertEqual(self.state_behind([0, 2, 1, 0]), ((0, 2, 4, 6), (-1, -1, 4, -1, 6, -1, -1)))

    def test_inner_room_remembers_while_the_outer_is_elsewhere(self):
        behind = self.state_behind([0, 2, 2])
        self.assertEqual(behind, ((0, 2, 3), (-1, -1, 3, -1, 6, -1, -1)))
        self.assertEqual(self.state_behind([0, 2, 2, 1, 0]), behind)

    def test_keep_room_in_an_all_room_entered_again_by_an_arrow_out_of_it(self):
        # The scope holds the keep room: it is left and entered again, as it was ahead of the event.
        chart = house([(1, 0, -1, 10, 0), (5, 1, -1, 6, 0), (6, 2, -1, 3, 0)])
        state, deeds = run(chart, [0, 1, 2])
        self.assertEqual(state, ((0, 2, 3, 4, 5, 8, 9), memory_of(11, {4: 8})))

    def test_one_arrow_to_another_room_of_a_keep_room(self):
        chart = house([(1, 0, -1, 8, 0), (8, 0, -1, 7, 0), (2, 1, -1, 1, 0), (1, 1, -1, 2, 0)])
        self.assertEqual(run(chart, [0])[0][1], memory_of(11, {4: 8}))
        self.assertEqual(run(chart, [0, 0])[0][1], memory_of(11, {4: 7}))
        self.assertEqual(run(chart, [0, 1])[0], ((0, 1), memory_of(11, {4: 8})))
        self.assertEqual(run(chart, [0, 1, 1])[0][0], (0, 2, 3, 4, 5, 8, 9))

    def test_first_room_that_keeps(self):
        chart = Chart([(-1, "keep"), (0, "plain"), (0, "plain")], [(1, 0, -1, 2, 0)])
        self.assertEqual(run(chart, [0])[0], ((0, 2), (2, -1, -1)))

    def test_all_room_straight_in_a_keep_room(self):
        # 0 one: 1 plain, 2 keep (3 plain, 4 all: 5 keep (7, 8), 6 plain)
        rooms = [
            (-1, "one"), (0, "plain"), (0, "keep"), (2, "plain"), (2, "all"),
            (4, "keep"), (4, "plain"), (5, "plain"), (5, "plain"),
        ]
        chart = Chart(rooms, [(1, 0, -1, 2, 0), (1, 1, -1, 8, 0), (2, 2, -1, 1, 0), (2, 3, -1, 3, 0)])
        inside = ((0, 2, 4, 5, 6, 8), memory_of(9, {2: 4, 5: 8}))
        self.assertEqual(run(chart, [1])[0], inside)
        self.assertEqual(run(chart, [1, 2, 0])[0], inside)
        self.assertEqual(run(chart, [1, 3])[0], ((0, 2, 3), memory_of(9, {2: 3, 5: 8})))


class Refusals(unittest.TestCase):
    def clash(self, call):
        with self.assertRaises(Clash) as caught:
            call()
        return (caught.exception.events, caught.exception.first, caught.exception.second)

    def test_two_arrows_alike(self):
        chart = pair([(1, 3, -1, 2, 0)] * 2)
        self.assertEqual(self.clash(lambda: stepped(chart, started(chart), 3)), ((3,), 0, 1))

    def test_first_two_takeable_arrows(self):
        # 0 is not open, 1 is hindered, 2 clashes with none, 3 and 4 and 5 clash.
        chart = house([
            (10, 0, -1, 9, 0), (2, 0, -1, 1, 0), (5, 0, -1, 6, 0),
            (9, 0, -1, 10, 0), (9, 0, -1, 9, 0), (9, 0, -1, 10, 0),
        ])
        state = ((0, 2, 3, 4, 5, 8, 9), memory_of(11, {4: 8}))
        self.assertEqual(self.clash(lambda: stepped(chart, state, 0)), ((0,), 3, 4))

    def test_scope_of_one_in_that_of_the_other(self):
        chart = house([(5, 1, -1, 1, 0), (9, 1, -1, 10, 0)])
        state = ((0, 2, 3, 4, 5, 8, 9), memory_of(11, {4: 8}))
        self.assertEqual(self.clash(lambda: stepped(chart, state, 1)), ((1,), 0, 1))

    def test_arrows_that_are_not_takeable_do_not_refuse(self):
        chart = house([(9, 0, -1, 10, 1), (2, 0, -1, 1, 2), (10, 0, -1, 9, 3), (9, 0, 6, 1, 4)])
        state = ((0, 2, 3, 4, 5, 8, 9), memory_of(11, {4: 8}))
        self.assertEqual(stepped(chart, state, 0)[1], (1,))

    def test_in_a_run(self):
        chart = pair([(1, 0, -1, 2, 0), (2, 1, -1, 1, 0), (2, 1, -1, 2, 0)])
        self.assertEqual(self.clash(lambda: run(chart, [0, 1])), ((0, 1), 1, 2))
        self.assertEqual(self.clash(lambda: run(chart, [1, 3, 0, 2, 1, 0, 1])), ((1, 3, 0, 2, 1), 1, 2))

    def test_at_the_first_event_of_a_run(self):
        chart = pair([(1, 2, -1, 2, 0), (1, 2, -1, 1, 0)])
        self.assertEqual(self.clash(lambda: run(chart, [2, 2])), ((2,), 0, 1))

    def test_events_are_a_tuple(self):
        chart = pair([(1, 2, -1, 2, 0)] * 2)
        self.assertIsInstance(self.clash(lambda: run(chart, [2]))[0], tuple)
        self.assertIsInstance(self.clash(lambda: stepped(chart, started(chart), 2))[0], tuple)

    def test_refused_run_changes_nothing(self):
        chart = pair([(1, 0, -1, 2, 0), (2, 1, -1, 1, 0), (2, 1, -1, 2, 0)])
        events = [0, 1]
        self.clash(lambda: run(chart, events))
        self.assertEqual(events, [0, 1])
        self.assertEqual(run(chart, [0]), (((0, 2), (-1, -1, -1)), [(0,)]))


class Runs(unittest.TestCase):
    def test_no_event(self):
        for chart in (house([]), nested([]), three([])):
            self.assertEqual(run(chart, []), (started(chart), []))

    def test_deeds_of_each_event(self):
        chart = three([(4, 0, -1, 5, 7), (6, 0, -1, 7, 8), (5, 1, -1, 4, 9)])
        state, deeds = run(chart, [1, 0, 0, 1, 0])
        self.assertEqual(deeds, [(), (7, 8), (), (9,), (7,)])
        self.assertEqual(state[0], (0, 1, 2, 3, 5, 7, 8))

    def test_a_run_is_its_steps(self):
        chart = nested(Memory.ARROWS)
        events = [0, 2, 3, 1, 1, 0, 3, 2, 0, 1, 0, 2, 3]
        state, deeds = started(chart), []
        for event in events:
            state, done = stepped(chart, state, event)
            deeds.append(done)
        self.assertEqual(run(chart, events), (state, deeds))

    def test_answer_is_a_tuple_with_a_list(self):
        answer = run(pair([]), [0])
        self.assertIsInstance(answer, tuple)
        self.assertIsInstance(answer[1], list)

    def test_events_stay_as_they_were(self):
        events = [0, 1, 2, 3, 0]
        run(nested(Memory.ARROWS), events)
        self.assertEqual(events, [0, 1, 2, 3, 0])

    def test_list_is_the_askers_own(self):
        chart = pair([(1, 0, -1, 2, 5)])
        answer = run(chart, [0])
        answer[1].append("mine")
        run(chart, [])[1].append("mine")
        self.assertEqual(run(chart, [0])[1], [(5,)])
        self.assertEqual(run(chart, [])[1], [])

    def test_chart_stays_as_it_was(self):
        chart = nested(Memory.ARROWS)
        rooms, arrows = list(chart.rooms), list(chart.arrows)
        run(chart, [0, 2, 3, 1, 0])
        self.assertEqual((chart.rooms, chart.arrows), (rooms, arrows))

    def test_lists_handed_in_may_change_afterwards(self):
        arrows = [(1, 0, -1, 2, 5)]
        chart = pair(arrows)
        arrows[0] = (1, 0, -1, 1, 6)
        self.assertEqual(run(chart, [0]), (((0, 2), (-1, -1, -1)), [(5,)]))


if __name__ == "__main__":
    unittest.main()
