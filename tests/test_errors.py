import unittest

from chartfold.errors import BadChart, ChartError, Clash, TooMany


class Errors(unittest.TestCase):
    def test_every_refusal_is_a_chart_error(self):
        self.assertTrue(issubclass(ChartError, ValueError))
        for refusal in (BadChart, TooMany, Clash):
            self.assertTrue(issubclass(refusal, ChartError))

    def test_refusals_are_told_apart(self):
        for refusal in (BadChart, TooMany, Clash):
            for other in (BadChart, TooMany, Clash):
                self.assertEqual(issubclass(refusal, other), refusal is other)

    def test_a_clash_tells_its_events_and_its_arrows(self):
        refusal = Clash((0, 3), 1, 4)
        self.assertEqual((refusal.events, refusal.first, refusal.second), ((0, 3), 1, 4))


if __name__ == "__main__":
    unittest.main()
