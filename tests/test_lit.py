import random
import unittest

from reckoning import is_in_the_dark, set_of, stones_in
from samples import yard_by
from shadowpost.darks import dark
from shadowpost.errors import BadRow, BadThing, NoDay, NoNumber, NoRow, NoStone, NoTurn, YardError
from shadowpost.lit import ever_lit, first_lit, hours, lit_turns
from shadowpost.things import thing_of
from shadowpost.yards import Yard

FAR = 10 ** 9
DOWN, RIGHT, LEFT = (0, 0, 1), (1, 0, 1), (-1, 0, 1)
ALL = (NoNumber, BadThing, NoStone, NoTurn, BadRow, NoRow, NoDay)


def row_yard():
    """Three stones in a row, a post on the middle one that reaches one stone on."""
    days = [
        ("dusk", 5, [None]),
        ("june", 30, [None, LEFT, DOWN, RIGHT, None, RIGHT]),
        ("may", 7, [DOWN, RIGHT, None]),
    ]
    return Yard(3, 1, [thing_of("post", [1, 0, 1])], days)


def some_yards(seed):
    chance = random.Random(seed)
    for width, height in [(1, 1), (4, 1), (1, 4), (3, 4), (5, 5)]:
        for things in (0, 1, 3, 6):
            yield yard_by(chance, width, height, things, [chance.randint(1, 5) for k in range(chance.randint(0, 4))])


def turns_in_the_light(yard, day, stone):
    return [k for k, turn in enumerate(yard.days[day][2]) if not is_in_the_dark(yard, stone, turn)]


class Case(unittest.TestCase):
    def check_list(self, told, wanted):
        self.assertIs(type(told), list)
        self.assertEqual([type(number) for number in told], [int] * len(wanted))
        self.assertEqual(told, wanted)


class LitTurns(Case):
    def test_turns_rising(self):
        yard = row_yard()
        self.check_list(lit_turns(yard, 1, (0, 0)), [2, 3, 5])
        self.check_list(lit_turns(yard, 1, (2, 0)), [1, 2])
        self.check_list(lit_turns(yard, 2, (0, 0)), [0, 1])
        self.check_list(lit_turns(yard, 2, (2, 0)), [0])

    def test_never_lit(self):
        yard = row_yard()
        for day in range(3):
            self.check_list(lit_turns(yard, day, (1, 0)), [])
        for stone in stones_in(yard):
            self.check_list(lit_turns(yard, 0, stone), [])

    def test_no_things(self):
        yard = Yard(2, 2, [], [("june", 1, [DOWN] * 24), ("may", 1, [RIGHT, None, RIGHT])])
        for stone in stones_in(yard):
            self.check_list(lit_turns(yard, 0, stone), list(range(24)))
            self.check_list(lit_turns(yard, 1, stone), [0, 2])

    def test_against_the_shadows_on_the_ground(self):
        for yard in some_yards(51):
            for day in range(len(yard.days)):
                for stone in stones_in(yard):
                    self.check_list(lit_turns(yard, day, stone), turns_in_the_light(yard, day, stone))

    def test_what_is_done_to_the_list_changes_nothing_later(self):
        yard = row_yard()
        told = lit_turns(yard, 1, (0, 0))
        told.clear()
        self.check_list(lit_turns(yard, 1, (0, 0)), [2, 3, 5])
        self.assertEqual(len(yard.days[1][2]), 6)


class FirstLit(Case):
    def test_the_first_day_and_of_it_the_first_turn(self):
        yard = row_yard()
        self.assertEqual(first_lit(yard, (0, 0)), (1, 2))
        self.assertEqual(first_lit(yard, (2, 0)), (1, 1))
        self.assertIs(type(first_lit(yard, (2, 0))), tuple)

    def test_a_stone_never_lit(self):
        self.assertIsNone(first_lit(row_yard(), (1, 0)))
        self.assertIsNone(first_lit(Yard(1, 1, [], [("june", 1, [None, None])]), (0, 0)))

    def test_no_days(self):
        self.assertIsNone(first_lit(Yard(1, 1, [], []), (0, 0)))

    def test_against_the_shadows_on_the_ground(self):
        for yard in some_yards(52):
            for stone in stones_in(yard):
                lit = [(day, k) for day in range(len(yard.days)) for k in turns_in_the_light(yard, day, stone)]
                self.assertEqual(first_lit(yard, stone), min(lit, default=None))


class EverLit(Case):
    def test_ordinary_yards(self):
        self.assertEqual(ever_lit(row_yard()), 0b101)
        self.assertEqual(ever_lit(Yard(2, 2, [], [("june", 1, [None, DOWN])])), 0b1111)
        self.assertEqual(ever_lit(Yard(2, 2, [], [("june", 1, [None])])), 0)
        self.assertEqual(ever_lit(Yard(2, 2, [], [])), 0)

    def test_just_the_stones_with_hours(self):
        for yard in some_yards(53):
            told = ever_lit(yard)
            self.assertIs(type(told), int)
            self.assertEqual(told, set_of(hour > 0 for hour in hours(yard)))
            self.assertEqual(told, set_of(first_lit(yard, stone) is not None for stone in stones_in(yard)))


class Hours(Case):
    def test_ordinary_yard(self):
        self.check_list(hours(row_yard()), [3 * 30 + 2 * 7, 0, 2 * 30 + 1 * 7])

    def test_no_days(self):
        self.check_list(hours(Yard(3, 2, [], [])), [0] * 6)

    def test_many_days_a_year(self):
        days = [(name, FAR, [DOWN] * 24) for name in "abcdefghijkl"]
        self.check_list(hours(Yard(2, 1, [thing_of("post", [1, 0, 1])], days)), [12 * 24 * FAR, 0])

    def test_against_the_shadows_on_the_ground(self):
        for yard in some_yards(54):
            wanted = []
            for stone in stones_in(yard):
                counts = [len(turns_in_the_light(yard, day, stone)) for day in range(len(yard.days))]
                wanted.append(sum(count * day[1] for count, day in zip(counts, yard.days)))
            self.check_list(hours(yard), wanted)

    def test_what_is_done_to_the_list_changes_nothing_later(self):
        yard = row_yard()
        hours(yard)[0] = 9
        self.check_list(hours(yard), [104, 0, 67])


class Refusals(Case):
    def refused(self, error, fields, asked, *given):
        with self.assertRaises(error) as taken:
            asked(*given)
        for other in ALL:
            self.assertIs(isinstance(taken.exception, other), other is error)
        self.assertIsInstance(taken.exception, YardError)
        self.assertIsInstance(taken.exception, ValueError)
        for name, value in fields.items():
            self.assertEqual(getattr(taken.exception, name), value)
            self.assertIs(type(getattr(taken.exception, name)), type(value))

    def strangers(self, yard):
        for p, q in [(0, 0), (yard.width - 1, yard.height - 1)]:
            yield from [(-1, q), (yard.width, q), (p, -1), (p, yard.height), (-1, -1), (yard.width, yard.height)]
            yield from [(FAR, q), (-FAR, q), (p, FAR), (p, -FAR), (FAR, FAR), (-FAR, -FAR)]

    def test_stones_beside_the_yard(self):
        for width, height in [(3, 1), (1, 3), (2, 5), (20, 20)]:
            yard = Yard(width, height, [], [("june", 1, [DOWN])])
            for stone in self.strangers(yard):
                self.refused(NoStone, {"stone": stone}, lit_turns, yard, 0, stone)
                self.refused(NoStone, {"stone": stone}, first_lit, yard, stone)
            for stone in [(0, 0), (width - 1, 0), (0, height - 1), (width - 1, height - 1)]:
                self.assertEqual(lit_turns(yard, 0, stone), [0])
                self.assertEqual(first_lit(yard, stone), (0, 0))

    def test_stones_of_a_yard_without_days(self):
        self.refused(NoStone, {"stone": (1, 0)}, first_lit, Yard(1, 1, [], []), (1, 0))

    def test_a_day_that_is_none(self):
        yard = row_yard()
        for day in (-1, 3, 4, -3, FAR, -FAR):
            self.refused(NoTurn, {"day": day, "turn": None}, lit_turns, yard, day, (0, 0))
        self.refused(NoTurn, {"day": 0, "turn": None}, lit_turns, Yard(1, 1, [], []), 0, (0, 0))

    def test_of_both_the_stone_comes_first(self):
        yard = row_yard()
        for day in (-1, 3, FAR):
            for stone in self.strangers(yard):
                self.refused(NoStone, {"stone": stone}, lit_turns, yard, day, stone)

    def test_what_is_told_afterwards_is_as_ahead(self):
        yard = row_yard()
        ahead = (lit_turns(yard, 1, (0, 0)), first_lit(yard, (2, 0)), hours(yard), ever_lit(yard), dark(yard, RIGHT))
        self.refused(NoStone, {"stone": (3, 0)}, lit_turns, yard, 0, (3, 0))
        self.refused(NoTurn, {"day": 3, "turn": None}, lit_turns, yard, 3, (0, 0))
        after = (lit_turns(yard, 1, (0, 0)), first_lit(yard, (2, 0)), hours(yard), ever_lit(yard), dark(yard, RIGHT))
        self.assertEqual(ahead, after)
