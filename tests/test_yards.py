import unittest

from shadowpost.darks import dark
from shadowpost.lit import hours
from shadowpost.things import thing_of
from shadowpost.yards import Yard


class Fields(unittest.TestCase):
    def test_fields(self):
        things = [thing_of("post", [0, 0, 2]), thing_of("sail", [0, 0, 4, 4, 3])]
        days = [("june", 30, [(1, 0, 1), None]), ("may", 10 ** 9, [None])]
        yard = Yard(3, 2, things, days)
        self.assertEqual((yard.width, yard.height), (3, 2))
        self.assertIs(type(yard.things), list)
        self.assertEqual([thing.shown() for thing in yard.things], ["post 0 0 2", "sail 0 0 4 4 3"])
        self.assertIs(type(yard.days), list)
        self.assertEqual(yard.days, [("june", 30, [(1, 0, 1), None]), ("may", 10 ** 9, [None])])
        self.assertEqual([type(day) for day in yard.days], [tuple, tuple])
        self.assertEqual([type(day[2]) for day in yard.days], [list, list])

    def test_no_things_and_no_days(self):
        yard = Yard(1, 1, [], [])
        self.assertEqual((yard.width, yard.height, yard.things, yard.days), (1, 1, [], []))

    def test_40_things_and_12_days_of_24_turns(self):
        things = [thing_of("post", [k % 20, k // 20, 1]) for k in range(40)]
        days = [(name, 1, [(k, k, 1) for k in range(24)]) for name in "abcdefghijkl"]
        yard = Yard(20, 20, things, days)
        self.assertEqual(yard.things, things)
        self.assertEqual(yard.days, days)


class Own(unittest.TestCase):
    def test_a_change_of_what_was_handed_in_changes_nothing(self):
        things, turns = [thing_of("post", [0, 0, 2])], [(1, 0, 1), (0, 0, 1)]
        days = [("june", 30, turns)]
        yard = Yard(2, 1, things, days)
        darks = [dark(yard, turn) for turn in yard.days[0][2]]
        sums = hours(yard)
        turns.append(None)
        turns[0] = (-1, 0, 1)
        days.append(("may", 1, [None]))
        days[0] = ("july", 2, turns)
        things.append(thing_of("sail", [-9, -9, 9, 9, 1]))
        self.assertEqual(len(yard.things), 1)
        self.assertEqual(yard.days, [("june", 30, [(1, 0, 1), (0, 0, 1)])])
        self.assertEqual([dark(yard, turn) for turn in yard.days[0][2]], darks)
        self.assertEqual(hours(yard), sums)

    def test_the_lists_handed_in_stay(self):
        things, turns = [thing_of("post", [0, 0, 2])], [(1, 0, 1), None]
        days = [("june", 30, turns)]
        yard = Yard(2, 1, things, days)
        self.assertIsNot(yard.things, things)
        self.assertIsNot(yard.days, days)
        self.assertIsNot(yard.days[0][2], turns)
        self.assertEqual(turns, [(1, 0, 1), None])
        self.assertEqual(days, [("june", 30, [(1, 0, 1), None])])
        self.assertIs(days[0][2], turns)

    def test_two_yards_of_one_list_are_apart(self):
        days = [("june", 30, [(1, 0, 1)])]
        one, other = Yard(1, 1, [], days), Yard(1, 1, [], days)
        self.assertIsNot(one.things, other.things)
        self.assertIsNot(one.days[0][2], other.days[0][2])

    def test_two_days_of_one_list_of_turns_are_apart(self):
        turns = [(1, 0, 1)]
        yard = Yard(1, 1, [], [("june", 30, turns), ("may", 31, turns)])
        self.assertIsNot(yard.days[0][2], yard.days[1][2])
