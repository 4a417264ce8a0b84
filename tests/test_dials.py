import random
import unittest
from fractions import Fraction
from math import floor

from samples import thing_by, yard_by
from shadowpost.dials import dial, end_of, least_pointer, turn_at
from shadowpost.things import thing_of
from shadowpost.yards import Yard

FAR = 10 ** 9
MOST = 10 ** 6


def stone_under(number):
    """The p with 2 p - 1 at most the number and 2 p + 1 above it."""
    return floor((number + 1) / 2)


def own_end(pointer, ray):
    x, y, h = pointer
    a, b, c = ray
    return (stone_under(x + Fraction(a * h, c)), stone_under(y + Fraction(b * h, c)))


def days_of(*turns):
    return [("abcdefghijkl"[k], 1, list(some)) for k, some in enumerate(turns)]


def own_dial(yard, pointer):
    ends = []
    for day, (name, times, turns) in enumerate(yard.days):
        ends += [(day, k, own_end(pointer, ray)) for k, ray in enumerate(turns) if ray is not None]
    for day, turn, (p, q) in ends:
        if not (0 <= p < yard.width and 0 <= q < yard.height):
            return ("off", day, turn)
    for number, (day, turn, stone) in enumerate(ends):
        for other_day, other, place in ends[:number]:
            if place == stone and other != turn:
                return ("alike", (other_day, other), (day, turn))
    return ("marks", sorted({(q * yard.width + p, turn) for day, turn, (p, q) in ends}))


class EndOf(unittest.TestCase):
    def check(self, pointer, ray, wanted):
        told = end_of(pointer, ray)
        self.assertIs(type(told), tuple)
        self.assertEqual([type(number) for number in told], [int, int])
        self.assertEqual(told, wanted, (pointer, ray))
        self.assertEqual(own_end(pointer, ray), wanted)

    def test_amid_a_stone(self):
        self.check((0, 0, 1), (0, 0, 1), (0, 0))
        self.check((4, 6, 1), (0, 0, 5), (2, 3))
        self.check((0, 0, 2), (1, 2, 1), (1, 2))
        self.check((2, 2, 3), (2, -2, 3), (2, 0))
        self.check((0, 0, 1), (5, 4, 2), (1, 1))

    def test_on_the_edge_of_two_stones(self):
        self.check((1, 0, 1), (0, 0, 1), (1, 0))
        self.check((0, 1, 1), (0, 0, 1), (0, 1))
        self.check((-1, 0, 1), (0, 0, 1), (0, 0))
        self.check((0, -1, 1), (0, 0, 1), (0, 0))
        self.check((0, 0, 3), (1, 0, 1), (2, 0))
        self.check((0, 0, 3), (-1, 0, 1), (-1, 0))

    def test_on_a_corner(self):
        self.check((1, 1, 1), (0, 0, 7), (1, 1))
        self.check((-1, -1, 1), (0, 0, 7), (0, 0))
        self.check((0, 0, 5), (1, -1, 5), (1, 0))

    def test_just_beside_an_edge(self):
        self.check((0, 0, 1), (MOST - 1, MOST, MOST), (0, 1))
        self.check((0, 0, 1), (1 - MOST, -MOST, MOST), (0, 0))
        self.check((0, 0, 2), (-2, -1, 1), (-2, -1))
        self.check((0, 0, 1), (2, 4, 3), (0, 1))
        self.check((0, 0, 1), (-3, -4, 3), (0, -1))

    def test_stones_that_are_none_of_a_yard(self):
        self.check((-10, 50, 1), (0, 0, 1), (-5, 25))
        self.check((-11, 51, 1), (0, 0, 1), (-5, 26))

    def test_numbers_at_the_bounds(self):
        far = 10 ** 15
        self.check((FAR, -FAR, FAR), (MOST, -MOST, 1), ((FAR + far) // 2, (-FAR - far) // 2))
        self.check((FAR, FAR, FAR), (-MOST, MOST, MOST), (0, FAR))
        self.check((-FAR, -FAR, 1), (1, -1, MOST), (-FAR // 2, -FAR // 2))

    def test_by_chance(self):
        chance = random.Random(81)
        for k in range(500):
            pointer = (chance.randint(-9, 9), chance.randint(-9, 9), chance.randint(1, 9))
            ray = (chance.randint(-9, 9), chance.randint(-9, 9), chance.randint(1, 9))
            self.check(pointer, ray, own_end(pointer, ray))


class Case(unittest.TestCase):
    def check_dial(self, yard, pointer, wanted):
        told = dial(yard, pointer)
        self.assertIs(type(told), tuple)
        self.assertEqual(told, wanted)
        self.assertEqual(own_dial(yard, pointer), wanted)
        if told[0] == "marks":
            self.assertIs(type(told[1]), list)
            for mark in told[1]:
                self.assertIs(type(mark), tuple)
                self.assertEqual([type(number) for number in mark], [int, int])


class Dial(Case):
    def test_marks_rising_each_once(self):
        yard = Yard(3, 2, [], days_of([(4, 0, 1), (2, 2, 1), (0, 0, 1)]))
        self.check_dial(yard, (0, 0, 1), ("marks", [(0, 2), (2, 0), (4, 1)]))

    def test_nights_are_left_out(self):
        yard = Yard(3, 1, [], days_of([None, (0, 0, 1), None, (2, 0, 1), None]))
        self.check_dial(yard, (0, 0, 1), ("marks", [(0, 1), (1, 3)]))

    def test_no_days_and_days_of_nights(self):
        self.check_dial(Yard(3, 1, [], []), (0, 0, 1), ("marks", []))
        self.check_dial(Yard(3, 1, [], days_of([None], [None, None])), (99, 99, 1), ("marks", []))

    def test_the_first_end_off_the_yard(self):
        for ray in [(6, 0, 1), (-2, 0, 1), (0, 4, 1), (0, -2, 1), (MOST, 0, 1), (0, -MOST, 1)]:
            yard = Yard(3, 2, [], days_of([None, (0, 0, 1)], [None, None, ray, ray]))
            self.check_dial(yard, (0, 0, 1), ("off", 1, 2))

    def test_the_edges_of_the_yard(self):
        self.check_dial(Yard(2, 2, [], days_of([(2, 2, 1)])), (0, 0, 1), ("marks", [(3, 0)]))
        self.check_dial(Yard(2, 2, [], days_of([(3, 0, 1)])), (0, 0, 1), ("off", 0, 0))
        self.check_dial(Yard(2, 2, [], days_of([(0, 3, 1)])), (0, 0, 1), ("off", 0, 0))
        self.check_dial(Yard(2, 2, [], days_of([(-1, -1, 1)])), (0, 0, 1), ("marks", [(0, 0)]))
        self.check_dial(Yard(2, 2, [], days_of([(-2, 0, 1)])), (0, 0, 1), ("off", 0, 0))

    def test_off_goes_ahead_of_alike(self):
        yard = Yard(3, 1, [], days_of([(0, 0, 1), (0, 0, 1), (6, 0, 1)]))
        self.check_dial(yard, (0, 0, 1), ("off", 0, 2))

    def test_alike_on_one_day(self):
        yard = Yard(3, 1, [], days_of([(0, 0, 1), (2, 0, 1), (0, 0, 1)]))
        self.check_dial(yard, (0, 0, 1), ("alike", (0, 0), (0, 2)))

    def test_alike_on_two_days(self):
        yard = Yard(3, 1, [], days_of([(0, 0, 1), (2, 0, 1)], [None, (0, 0, 1)]))
        self.check_dial(yard, (0, 0, 1), ("alike", (0, 0), (1, 1)))

    def test_one_turns_number_on_two_days_is_no_fault(self):
        yard = Yard(3, 1, [], days_of([(0, 0, 1), (2, 0, 1)], [(0, 0, 1), (2, 0, 1)], [(0, 0, 5), (4, 0, 1)]))
        self.check_dial(yard, (0, 0, 1), ("marks", [(0, 0), (1, 1), (2, 1)]))

    def test_which_pair_is_told(self):
        # The first one that meets a fault is told as second, whichever pair has the first one ahead.
        yard = Yard(4, 1, [], days_of([(0, 0, 1), (2, 0, 1), (2, 0, 1), (0, 0, 1)]))
        self.check_dial(yard, (0, 0, 1), ("alike", (0, 1), (0, 2)))
        # Of several ahead on its stone the first one is told as first.
        yard = Yard(4, 1, [], days_of([(2, 0, 1)], [(2, 0, 1)], [(2, 0, 1), (2, 0, 1)]))
        self.check_dial(yard, (0, 0, 1), ("alike", (0, 0), (2, 1)))
        yard = Yard(4, 1, [], days_of([(4, 0, 1), (2, 0, 1)], [None, (2, 0, 1)], [(2, 0, 1), (2, 0, 1)]))
        self.check_dial(yard, (0, 0, 1), ("alike", (0, 1), (2, 0)))

    def test_what_stands_in_the_yard_changes_nothing(self):
        days = days_of([(4, 0, 1), (2, 2, 1), None], [(0, 0, 1)])
        bare = Yard(3, 2, [], days)
        full = Yard(3, 2, [thing_of("house", [-9, -9, 9, 9, 9]), thing_of("post", [0, 0, 9])], days)
        for pointer in [(0, 0, 1), (1, 1, 1), (0, 0, 2), (9, 9, 1), (4, 2, 1)]:
            self.assertEqual(dial(full, pointer), dial(bare, pointer))
            self.check_dial(full, pointer, own_dial(full, pointer))

    def test_by_chance(self):
        chance = random.Random(82)
        words = []
        for k in range(400):
            yard = yard_by(chance, 7, 6, 0, [chance.randint(1, 3) for day in range(chance.randint(0, 3))])
            pointer = (chance.randint(2, 9), chance.randint(2, 9), chance.randint(1, 3))
            self.check_dial(yard, pointer, own_dial(yard, pointer))
            words.append(dial(yard, pointer)[0])
        for word in ("off", "alike", "marks"):
            self.assertGreater(words.count(word), 15)

    def test_what_is_done_to_the_marks_changes_nothing_later(self):
        yard = Yard(3, 1, [], days_of([(0, 0, 1), (2, 0, 1)]))
        told = dial(yard, (0, 0, 1))
        told[1][0] = None
        told[1].append((2, 2))
        self.check_dial(yard, (0, 0, 1), ("marks", [(0, 0), (1, 1)]))


class TurnAt(unittest.TestCase):
    def test_each_mark(self):
        marks = [(0, 2), (2, 0), (4, 1), (399, 23)]
        for number, turn in marks:
            self.assertEqual(turn_at(marks, number), turn)

    def test_numbers_without_a_mark(self):
        marks = [(0, 2), (2, 0), (4, 1)]
        for number in (1, 3, 5, -1, -4, 400, FAR, -FAR):
            self.assertIsNone(turn_at(marks, number))

    def test_a_list_without_marks(self):
        for number in (0, 1, -1, 399):
            self.assertIsNone(turn_at([], number))

    def test_the_list_handed_in_stays(self):
        marks = [(0, 2), (2, 0)]
        turn_at(marks, 2)
        turn_at(marks, 7)
        self.assertEqual(marks, [(0, 2), (2, 0)])

    def test_a_dial_tells_the_turn_by_the_stone(self):
        yard = Yard(3, 2, [], days_of([(4, 0, 1), (2, 2, 1)], [(4, 0, 1), None, (0, 0, 1)]))
        marks = dial(yard, (0, 0, 1))[1]
        for name, times, turns in yard.days:
            for turn, ray in enumerate(turns):
                if ray is not None:
                    p, q = end_of((0, 0, 1), ray)
                    self.assertEqual(turn_at(marks, q * 3 + p), turn)


class LeastPointer(Case):
    def check_least(self, yard, x, y, most, wanted):
        told = least_pointer(yard, x, y, most)
        self.assertIs(type(told), tuple)
        self.assertEqual(told, wanted)
        self.assertIs(type(told[-1]), list)
        for h, fault in enumerate(told[-1], start=1):
            self.assertEqual(fault, own_dial(yard, (x, y, h)))
            self.assertIn(fault[0], ("off", "alike"))

    def test_the_least_is_1(self):
        yard = Yard(3, 1, [], days_of([(0, 0, 1), (2, 0, 1)]))
        for most in (1, 2, 30):
            self.check_least(yard, 0, 0, most, ("height", 1, [(0, 0), (1, 1)], []))

    def test_the_least_is_amid(self):
        yard = Yard(3, 1, [], days_of([(0, 0, 1), (1, 0, 3)]))
        fault = ("alike", (0, 0), (0, 1))
        for most in (3, 4, 30):
            self.check_least(yard, 0, 0, most, ("height", 3, [(0, 0), (1, 1)], [fault, fault]))
        self.check_least(yard, 0, 0, 2, ("none", [fault, fault]))
        self.check_least(yard, 0, 0, 1, ("none", [fault]))

    def test_the_least_is_most(self):
        yard = Yard(2, 1, [], days_of([(0, 0, 1), (1, 0, 30)]))
        fault = ("alike", (0, 0), (0, 1))
        self.check_least(yard, 0, 0, 30, ("height", 30, [(0, 0), (1, 1)], [fault] * 29))
        self.check_least(yard, 0, 0, 29, ("none", [fault] * 29))

    def test_faults_in_order(self):
        yard = Yard(3, 1, [], days_of([None, (-2, 0, 1), (-4, 0, 2)]))
        faults = [("alike", (0, 1), (0, 2)), ("off", 0, 1)]
        self.check_least(yard, 2, 0, 2, ("none", [("alike", (0, 1), (0, 2)), ("off", 0, 1)]))
        self.check_least(yard, 2, 0, 1, ("none", faults[:1]))
        away = Yard(4, 1, [], days_of([(2, 0, 1), (3, 0, 1)]))
        self.check_least(away, -4, 0, 5, ("height", 2, [(0, 0), (1, 1)], [("off", 0, 0)]))

    def test_none(self):
        yard = Yard(2, 2, [], days_of([(0, 0, 1), (0, 0, 2)]))
        self.check_least(yard, 0, 0, 30, ("none", [("alike", (0, 0), (0, 1))] * 30))

    def test_a_dial_without_any_mark(self):
        self.check_least(Yard(1, 1, [], []), FAR, -FAR, 30, ("height", 1, [], []))
        self.check_least(Yard(1, 1, [], days_of([None])), FAR, -FAR, 1, ("height", 1, [], []))

    def test_places_at_the_bounds(self):
        yard = Yard(20, 20, [], days_of([(0, 0, 1)]))
        self.check_least(yard, FAR, -FAR, 2, ("none", [("off", 0, 0)] * 2))

    def test_by_chance(self):
        chance = random.Random(83)
        heights = set()
        for k in range(150):
            rays = [(chance.randint(-2, 2), chance.randint(-2, 2), chance.randint(2, 9)) for turn in range(4)]
            yard = Yard(9, 9, [thing_by(chance, 9)], days_of(rays[:2], rays[2:]))
            x, y, most = chance.randint(-2, 18), chance.randint(-2, 18), chance.choice([1, 2, 5, 30])
            dials = [own_dial(yard, (x, y, h)) for h in range(1, most + 1)]
            right = [h for h, told in enumerate(dials, start=1) if told[0] == "marks"]
            if right:
                wanted = ("height", right[0], dials[right[0] - 1][1], dials[:right[0] - 1])
            else:
                wanted = ("none", dials)
            self.check_least(yard, x, y, most, wanted)
            heights.add(right[0] if right else None)
        self.assertGreater(len(heights), 3)

    def test_what_is_done_to_the_lists_changes_nothing_later(self):
        yard = Yard(3, 1, [], days_of([(0, 0, 1), (1, 0, 2)]))
        wanted = ("height", 2, [(0, 0), (1, 1)], [("alike", (0, 0), (0, 1))])
        told = least_pointer(yard, 0, 0, 5)
        self.assertEqual(told, wanted)
        told[2].clear()
        told[3].append(None)
        self.check_least(yard, 0, 0, 5, wanted)
        least_pointer(yard, 0, 0, 1)[1].clear()
        self.check_least(yard, 0, 0, 1, ("none", wanted[3]))
