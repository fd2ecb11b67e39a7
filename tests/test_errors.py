import unittest

from slackfigures import errors
from slackfigures.errors import SlackError, NoDeed, NoTable, Spoilt

OF_A_TEXT = ["NoFigure", "NoLooks", "NoRoom", "NoText", "NoRow", "NoMore", "NoWork", "NoCell"]
ALL = OF_A_TEXT + ["NoTable", "Spoilt", "NoDeed"]


class TestErrors(unittest.TestCase):
    def test_slack_error_stands_under_value_error(self):
        self.assertEqual(SlackError.__bases__, (ValueError,))

    def test_each_stands_straight_under_slack_error(self):
        for name in ALL:
            with self.subTest(name):
                self.assertEqual(getattr(errors, name).__bases__, (SlackError,))

    def test_none_stands_under_another_one(self):
        classes = [getattr(errors, name) for name in ALL]
        self.assertEqual(len(set(classes)), 11)
        for one in classes:
            for other in classes:
                self.assertEqual(issubclass(one, other), one is other, (one, other))

    def test_each_is_defined_under_its_own_name(self):
        for name in ALL:
            self.assertEqual(getattr(errors, name).__name__, name)

    def test_made_of_a_text(self):
        for name in ["SlackError"] + OF_A_TEXT:
            with self.subTest(name):
                made = getattr(errors, name)("why it is refused")
                self.assertEqual(str(made), "why it is refused")
                with self.assertRaises(SlackError):
                    raise made

    def test_no_table_has_top_and_look(self):
        made = NoTable(9, -17)
        self.assertEqual((made.top, made.look), (9, -17))
        other = NoTable(-17, 9)
        self.assertEqual((other.top, other.look), (-17, 9))
        self.assertEqual((made.top, made.look), (9, -17))

    def test_spoilt_has_step(self):
        for step in (0, 1, 249, 10 ** 59):
            self.assertEqual(Spoilt(step).step, step)

    def test_no_deed_has_number(self):
        for number in (0, 1, 5000, 10 ** 59):
            self.assertEqual(NoDeed(number).number, number)

    def test_fields_are_there_when_caught(self):
        with self.assertRaises(ValueError) as held:
            raise NoTable(8, 3)
        self.assertEqual((held.exception.top, held.exception.look), (8, 3))
        with self.assertRaises(SlackError) as held:
            raise Spoilt(4)
        self.assertEqual(held.exception.step, 4)
        with self.assertRaises(SlackError) as held:
            raise NoDeed(6)
        self.assertEqual(held.exception.number, 6)

    def test_each_says_something(self):
        for made in (NoTable(8, 3), Spoilt(4), NoDeed(6)):
            self.assertNotEqual(str(made), "")


if __name__ == "__main__":
    unittest.main()
