import unittest

from shadowpost.errors import BadRow, BadThing, NoDay, NoNumber, NoRow, NoStone, NoTurn, YardError

FIELDS = {
    NoNumber: (),
    BadThing: (),
    NoStone: ("stone",),
    NoTurn: ("day", "turn"),
    BadRow: ("row",),
    NoRow: (),
    NoDay: ("name",),
}


class Standing(unittest.TestCase):
    def test_yard_error_is_a_value_error_and_none_of_the_seven(self):
        self.assertTrue(issubclass(YardError, ValueError))
        for refusal in FIELDS:
            self.assertFalse(issubclass(YardError, refusal), refusal)

    def test_each_stands_under_yard_error_and_value_error(self):
        for refusal in FIELDS:
            self.assertTrue(issubclass(refusal, YardError), refusal)
            self.assertTrue(issubclass(refusal, ValueError), refusal)
            self.assertIsNot(refusal, YardError)

    def test_none_stands_under_another(self):
        self.assertEqual(len(FIELDS), 7)
        for refusal in FIELDS:
            for other in FIELDS:
                if other is not refusal:
                    self.assertFalse(issubclass(refusal, other), (refusal, other))

    def test_names(self):
        names = [refusal.__name__ for refusal in FIELDS]
        self.assertEqual(names, ["NoNumber", "BadThing", "NoStone", "NoTurn", "BadRow", "NoRow", "NoDay"])


class Fields(unittest.TestCase):
    def test_fields_are_what_was_handed_in_by_their_order(self):
        for refusal, names in FIELDS.items():
            handed = [object() for name in names]
            error = refusal(*handed)
            for name, value in zip(names, handed):
                self.assertIs(getattr(error, name), value, (refusal, name))

    def test_ordinary_fields(self):
        self.assertEqual(NoStone((3, -1)).stone, (3, -1))
        self.assertEqual(NoStone(400).stone, 400)
        error = NoTurn(2, 7)
        self.assertEqual((error.day, error.turn), (2, 7))
        self.assertEqual(BadRow(0).row, 0)
        self.assertEqual(NoDay("june").name, "june")

    def test_empty_fields(self):
        error = NoTurn(12, None)
        self.assertEqual(error.day, 12)
        self.assertIsNone(error.turn)
        self.assertEqual(NoDay("").name, "")

    def test_too_few_fields_make_none(self):
        for refusal, names in FIELDS.items():
            if names:
                with self.assertRaises(TypeError):
                    refusal(*names[1:])

    def test_handed_in_list_stays_as_it_was(self):
        stone = [1, 2]
        NoStone(stone)
        self.assertEqual(stone, [1, 2])


class Raised(unittest.TestCase):
    def test_each_is_taken_as_a_yard_error(self):
        for refusal, names in FIELDS.items():
            with self.assertRaises(YardError) as taken:
                raise refusal(*names)
            self.assertIs(type(taken.exception), refusal)
            for name in names:
                self.assertEqual(getattr(taken.exception, name), name)

    def test_two_of_one_class_keep_their_own_fields(self):
        first = NoTurn(1, 2)
        second = NoTurn(3, 4)
        self.assertEqual((first.day, first.turn), (1, 2))
        self.assertEqual((second.day, second.turn), (3, 4))
