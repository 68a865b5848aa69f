"""Point 20: writing a chart as a text, and reading just what is written so."""

import unittest

from charts import HOUSE, PAIR, house, pair
from chartfold.errors import BadChart
from chartfold.keeping import run
from chartfold.notes import read, shown
from chartfold.rooms import Chart

ARROWS = [(1, 0, -1, 2, 0), (10, 3, 0, 10, 99), (9, 1, 10, 1, 10)]

WRITTEN = """room - one
room 0 plain
room 0 all
room 2 one
room 2 keep
room 3 plain
room 3 plain
room 4 plain
room 4 one
room 8 plain
room 8 plain
arrow 1 0 - 2 0
arrow 10 3 0 10 99
arrow 9 1 10 1 10"""

ROOMS = "room - one\nroom 0 plain\nroom 0 plain"
ARROW = "arrow 1 0 - 2 7"


class Showing(unittest.TestCase):
    def test_one_room(self):
        self.assertEqual(shown(Chart([(-1, "plain")], [])), "room - plain")

    def test_no_arrow(self):
        self.assertEqual(shown(pair([])), ROOMS)

    def test_rooms_and_arrows(self):
        self.assertEqual(shown(house(ARROWS)), WRITTEN)

    def test_each_kind(self):
        for kind in ("one", "all", "keep"):
            self.assertEqual(shown(Chart([(-1, kind), (0, "plain")], [])), f"room - {kind}\nroom 0 plain")

    def test_sixteen_rooms_and_twenty_arrows(self):
        chart = Chart([(-1, "keep")] + [(0, "plain")] * 15, [(15, 3, 15, 14, 99)] * 20)
        lines = ["room - keep"] + ["room 0 plain"] * 15 + ["arrow 15 3 15 14 99"] * 20
        self.assertEqual(shown(chart), "\n".join(lines))

    def test_chart_stays_as_it_was(self):
        chart = house(ARROWS)
        shown(chart)
        self.assertEqual((chart.rooms, chart.arrows), (HOUSE, ARROWS))


class Reading(unittest.TestCase):
    def assert_read(self, text, rooms, arrows):
        chart = read(text)
        self.assertIsInstance(chart, Chart)
        self.assertEqual((chart.rooms, chart.arrows), (rooms, arrows))
        for told in chart.rooms + chart.arrows:
            self.assertIsInstance(told, tuple)

    def test_one_room(self):
        self.assert_read("room - plain", [(-1, "plain")], [])

    def test_no_arrow(self):
        self.assert_read(ROOMS, PAIR, [])

    def test_rooms_and_arrows(self):
        self.assert_read(WRITTEN, HOUSE, ARROWS)

    def test_sixteen_rooms_and_twenty_arrows(self):
        rooms, arrows = [(-1, "keep")] + [(0, "plain")] * 15, [(15, 3, 15, 14, 99)] * 20
        self.assert_read(shown(Chart(rooms, arrows)), rooms, arrows)

    def test_each_deed(self):
        for deed in range(100):
            self.assert_read(f"{ROOMS}\narrow 1 0 - 2 {deed}", PAIR, [(1, 0, -1, 2, deed)])

    def test_what_is_read_can_be_run(self):
        self.assertEqual(run(read(ROOMS + "\n" + ARROW), [0]), (((0, 2), (-1, -1, -1)), [(7,)]))

    def test_each_reading_is_a_chart_of_its_own(self):
        first, second = read(WRITTEN), read(WRITTEN)
        self.assertIsNot(first.rooms, second.rooms)
        self.assertIsNot(first.arrows, second.arrows)


class Refusals(unittest.TestCase):
    def assert_refused(self, *texts):
        for text in texts:
            with self.subTest(text=text[:80]):
                with self.assertRaises(BadChart):
                    read(text)

    def assert_arrow_refused(self, *lines):
        self.assert_refused(*[ROOMS + "\n" + line for line in lines])
        self.assert_refused(*["\n".join((ROOMS, line, ARROW)) for line in lines])

    def test_the_text_itself_is_read(self):
        self.assertEqual(read(ROOMS + "\n" + ARROW).arrows, [(1, 0, -1, 2, 7)])

    def test_empty(self):
        self.assert_refused("", " ", "\n", "-", "room", "room ", "room -", "room - ", "arrow", "plain")

    def test_line_ends(self):
        for text in ("room - plain", ROOMS, ROOMS + "\n" + ARROW):
            self.assert_refused(text + "\n", "\n" + text, text + "\n\n", text + "\r", text + "\r\n")
        for text in (ROOMS, ROOMS + "\n" + ARROW):
            self.assert_refused(text.replace("\n", "\n\n", 1), text.replace("\n", "\r\n"))
            for end in ("\r", "\v", "\f", "\x1c", "\x1d", "\x1e", "\x85", "\u2028", "\u2029", " ", ""):
                self.assert_refused(text.replace("\n", end), text.replace("\n", end, 1), text + end + "\n")

    def test_blanks(self):
        for line in (
            "arrow  1 0 - 2 7", "arrow 1 0 -  2 7", " arrow 1 0 - 2 7", "arrow 1 0 - 2 7 ", "arrow\t1 0 - 2 7",
            "arrow 1 0 - 2\t7", "arrow 1 0 - 2\u00a07", "arrow1 0 - 2 7", "arrow 1 0 -2 7", "arrow 1 0- 2 7",
        ):
            self.assert_arrow_refused(line)
        self.assert_refused(
            " room - plain", "room  - plain", "room -  plain", "room - plain ", "room\t- plain", "room -\tplain",
            "room- plain", "room -plain", "room\u00a0- plain",
        )

    def test_words(self):
        self.assert_refused(
            "Room - plain", "ROOM - plain", "rooms - plain", "roo - plain", "- plain", "room plain -", "room plain",
            "room - Plain", "room - PLAIN", "room - plai", "room - plainn", "room - any", "room - -", "room - 0",
            "room - plain plain", "room - plain -", "room 0 - plain", "\ufeffroom - plain", "room - plain\0",
            "# a chart\nroom - plain", "room - plain # a room",
        )
        self.assert_arrow_refused(
            "Arrow 1 0 - 2 7", "arrows 1 0 - 2 7", "1 0 - 2 7", "arrow 1 0 - 2", "arrow 1 0 - 2 7 7", "arrow 1 0 2 7",
            "room 1 0 - 2 7", "arrow 0 plain", "arrow - one", "arrow 1 0 none 2 7", "arrow one 0 - 2 7",
        )

    def test_numbers_that_are_written_otherwise(self):
        for word in (
            "01", "007", "1.0", "1.", "+1", "-1", "1_0", "0x1", "1e0", "", "--", "_", "a", "\u0661", "\u00b9", "\uff11",
            "1\u0661", "\u2460", "-0", "one", "0" * 5000 + "1", "9" * 5000,
        ):
            self.assert_arrow_refused(
                f"arrow {word} 0 - 2 7", f"arrow 1 {word} - 2 7", f"arrow 1 0 {word} 2 7", f"arrow 1 0 - {word} 7",
                f"arrow 1 0 - 2 {word}",
            )
            self.assert_refused(f"room {word} plain", f"room - one\nroom {word} plain")
        self.assert_arrow_refused("arrow 1 00 - 2 7", "arrow 1 0 00 2 7", "arrow 1 0 - 2 00", "arrow 1 0 - 2 07")
        self.assert_refused("room -1 plain", "room - one\nroom 00 plain")

    def test_signs_that_are_no_figures(self):
        for sign in map(chr, list(range(48)) + list(range(58, 256))):
            self.assert_arrow_refused(f"arrow 1 0 - 2 {sign}7", f"arrow 1 0 - 2 7{sign}", f"arrow 1 {sign}0 - 2 7")
            if sign != "-":
                self.assert_arrow_refused(f"arrow 1 0 {sign} 2 7", f"arrow 1 0 - 2 {sign}")

    def test_dash_where_no_number_is_none(self):
        self.assert_arrow_refused("arrow - 0 - 2 7", "arrow 1 - - 2 7", "arrow 1 0 - - 7", "arrow 1 0 - 2 -")
        self.assert_refused("room - one\nroom - plain")

    def test_order_of_the_lines(self):
        self.assert_refused(
            ARROW, ARROW + "\n" + ROOMS, "room - one\nroom 0 plain\n" + ARROW + "\nroom 0 plain",
            "room 0 plain\nroom - one\nroom 0 plain",
        )

    def test_no_chart(self):
        self.assert_refused(
            "room 0 plain", "room - one", "room - plain\nroom 0 plain", "room - one\nroom 1 plain",
            "room - one\nroom 0 plain\nroom 3 plain", "room - one" + "\nroom 0 plain" * 16,
            ROOMS + ("\n" + ARROW) * 21, "room - all\nroom 0 plain\nroom 0 plain\n" + ARROW,
        )
        self.assert_arrow_refused(
            "arrow 3 0 - 2 7", "arrow 1 4 - 2 7", "arrow 1 0 3 2 7", "arrow 1 0 - 3 7", "arrow 1 0 - 2 100",
            "arrow 0 0 - 1 7", "arrow 1 0 - 0 7", "arrow 1 0 - 2 1000",
        )


class EachSign(unittest.TestCase):
    """A text that is changed in one place is refused, or it is just what its own chart is written as."""

    SIGNS = "0123456789- \n\r\tplainroomkew_+."

    def assert_just_written(self, text):
        try:
            chart = read(text)
        except BadChart:
            return False
        self.assertEqual(shown(chart), text)
        return True

    def test_each_place(self):
        taken = 0
        for place in range(len(WRITTEN) + 1):
            taken += self.assert_just_written(WRITTEN[:place] + WRITTEN[place + 1:]) and place < len(WRITTEN)
            for sign in self.SIGNS:
                taken += self.assert_just_written(WRITTEN[:place] + sign + WRITTEN[place:])
                taken += self.assert_just_written(WRITTEN[:place] + sign + WRITTEN[place + 1:])
        self.assertGreater(taken, len(WRITTEN))


if __name__ == "__main__":
    unittest.main()
