import random
import unittest

from reckoning import dark_stones, stones_in
from samples import yard_by
from shadowpost.errors import NoStone, NoTurn
from shadowpost.things import thing_of
from shadowpost.walks import shady_walk
from shadowpost.yards import Yard

FAR = 10 ** 9
DOWN, RIGHT = (0, 0, 1), (1, 0, 1)


def lies_beside(one, other):
    return abs(one[0] - other[0]) + abs(one[1] - other[1]) <= 1


def least_costs(yard, day, goal):
    """For each turn and stone the least cost, by following every walk forward from there, cost by cost."""
    turns = yard.days[day][2]
    darks = [dark_stones(yard, turn) for turn in turns]
    stones = stones_in(yard)
    paper = []
    for first in range(len(turns)):
        row = []
        for start in range(len(stones)):
            reached = {start: 0 if darks[first][start] else 1}
            ends = [reached[start]] if stones[start] == goal else []
            for turn in range(first + 1, len(turns)):
                onward = {}
                for number, cost in reached.items():
                    for other in range(len(stones)):
                        if lies_beside(stones[number], stones[other]):
                            more = cost + (0 if darks[turn][other] else 1)
                            onward[other] = min(more, onward.get(other, more))
                reached = onward
                ends += [cost for number, cost in reached.items() if stones[number] == goal]
            row.append(min(ends, default=None))
        paper.append(row)
    return paper


class Case(unittest.TestCase):
    def check(self, yard, day, start, goal):
        told = shady_walk(yard, day, start, goal)
        self.assertIs(type(told), tuple)
        wanted = least_costs(yard, day, goal)
        paper = told[-1]
        self.assertIs(type(paper), list)
        self.assertEqual([type(row) for row in paper], [list] * len(wanted))
        self.assertEqual(paper, wanted)
        self.assertTrue(all(cost is None or type(cost) is int for row in paper for cost in row))
        least = wanted[0][start[1] * yard.width + start[0]]
        if least is None:
            self.assertEqual(told[0], "none")
            self.assertEqual(len(told), 2)
        else:
            self.assertEqual(told[:2], ("walk", least))
            self.assertEqual(len(told), 4)
            self.check_walk(yard, day, start, goal, least, told[2])
        return told

    def check_walk(self, yard, day, start, goal, cost, stones):
        self.assertIs(type(stones), list)
        for stone in stones:
            self.assertIs(type(stone), tuple)
            self.assertEqual([type(number) for number in stone], [int, int])
            self.assertIn(stone, stones_in(yard))
        turns = yard.days[day][2]
        self.assertLessEqual(len(stones), len(turns))
        self.assertEqual((stones[0], stones[-1]), (start, goal))
        for one, other in zip(stones, stones[1:]):
            self.assertTrue(lies_beside(one, other), stones)
        darks = [dark_stones(yard, turn) for turn in turns]
        lit = [not darks[turn][q * yard.width + p] for turn, (p, q) in enumerate(stones)]
        self.assertEqual(sum(lit), cost)


class Walks(Case):
    def test_start_and_goal_the_same_stone(self):
        bare = Yard(3, 3, [], [("june", 1, [DOWN] * 3)])
        self.assertEqual(self.check(bare, 0, (1, 1), (1, 1))[:3], ("walk", 1, [(1, 1)]))
        post = Yard(3, 3, [thing_of("post", [1, 1, 1])], [("june", 1, [DOWN] * 3)])
        self.assertEqual(self.check(post, 0, (1, 1), (1, 1))[:2], ("walk", 0))
        night = Yard(1, 1, [], [("june", 1, [None])])
        self.assertEqual(self.check(night, 0, (0, 0), (0, 0)), ("walk", 0, [(0, 0)], [[0]]))
        lone = Yard(1, 1, [], [("june", 1, [DOWN, None, DOWN])])
        self.assertEqual(self.check(lone, 0, (0, 0), (0, 0)), ("walk", 1, [(0, 0)], [[1], [0], [1]]))

    def test_a_goal_too_far_for_the_turns(self):
        for turns in range(1, 6):
            yard = Yard(3, 3, [], [("june", 1, [DOWN] * turns)])
            told = self.check(yard, 0, (0, 0), (2, 2))
            self.assertEqual(told[0], "walk" if turns >= 5 else "none")
            told = self.check(yard, 0, (0, 0), (2, 0))
            self.assertEqual(told[0], "walk" if turns >= 3 else "none")

    def test_the_cost_counts_turn_0_and_the_last_one(self):
        days = [("june", 1, [DOWN] * 4), ("may", 1, [DOWN, None, DOWN]), ("dusk", 1, [None, DOWN, None])]
        yard = Yard(4, 1, [], days)
        self.assertEqual(self.check(yard, 0, (0, 0), (3, 0))[:3], ("walk", 4, [(0, 0), (1, 0), (2, 0), (3, 0)]))
        self.assertEqual(self.check(yard, 1, (0, 0), (2, 0))[:2], ("walk", 2))
        self.assertEqual(self.check(yard, 1, (0, 0), (1, 0))[:2], ("walk", 1))
        self.assertEqual(self.check(yard, 2, (0, 0), (2, 0))[:2], ("walk", 1))
        self.assertEqual(self.check(yard, 2, (0, 0), (1, 0))[:2], ("walk", 1))

    def test_waiting_in_the_dark(self):
        # The stone between is lit at turn 1 and dark later on: it pays to wait.
        yard = Yard(3, 1, [thing_of("post", [0, 0, 3])], [("june", 1, [DOWN, DOWN, RIGHT, RIGHT])])
        self.assertEqual(self.check(yard, 0, (0, 0), (2, 0))[:3], ("walk", 0, [(0, 0), (0, 0), (1, 0), (2, 0)]))
        short = Yard(3, 1, yard.things, [("june", 1, [DOWN, DOWN, RIGHT])])
        self.assertEqual(self.check(short, 0, (0, 0), (2, 0))[:3], ("walk", 1, [(0, 0), (1, 0), (2, 0)]))

    def test_a_way_about_in_the_dark(self):
        houses = [[0, 0, 1, 4, 1], [0, 4, 4, 5, 1], [4, 0, 5, 4, 1]]
        things = [thing_of("house", numbers) for numbers in houses]
        yard = Yard(3, 3, things, [("june", 1, [DOWN] * 7), ("may", 1, [DOWN] * 5)])
        about = [(0, 0), (0, 1), (0, 2), (1, 2), (2, 2), (2, 1), (2, 0)]
        self.assertEqual(self.check(yard, 0, (0, 0), (2, 0))[:3], ("walk", 0, about))
        self.assertEqual(self.check(yard, 1, (0, 0), (2, 0))[:2], ("walk", 1))

    def test_no_steps_from_corner_to_corner(self):
        yard = Yard(2, 2, [], [("june", 1, [DOWN] * 2)])
        self.assertEqual(self.check(yard, 0, (0, 0), (1, 1))[0], "none")
        self.assertEqual(self.check(yard, 0, (1, 0), (0, 1))[0], "none")

    def test_no_steps_from_row_to_row_at_the_ends(self):
        yard = Yard(3, 2, [], [("june", 1, [DOWN] * 2)])
        self.assertEqual(self.check(yard, 0, (2, 0), (0, 1))[0], "none")
        self.assertEqual(self.check(yard, 0, (0, 1), (2, 0))[0], "none")

    def test_each_side(self):
        yard = Yard(3, 3, [], [("june", 1, [DOWN] * 2)])
        for goal in [(0, 1), (2, 1), (1, 0), (1, 2)]:
            self.assertEqual(self.check(yard, 0, (1, 1), goal)[:3], ("walk", 2, [(1, 1), goal]))

    def test_all_at_night(self):
        yard = Yard(4, 2, [], [("june", 1, [None] * 5)])
        self.assertEqual(self.check(yard, 0, (0, 0), (3, 1))[:2], ("walk", 0))

    def test_a_small_paper(self):
        yard = Yard(2, 1, [thing_of("post", [0, 0, 1])], [("june", 1, [DOWN, RIGHT, DOWN])])
        self.assertEqual(shady_walk(yard, 0, (0, 0), (1, 0))[3], [[0, 1], [1, 0], [None, 1]])
        self.assertEqual(shady_walk(yard, 0, (1, 0), (0, 0))[3], [[0, 1], [0, 0], [0, None]])

    def test_the_greatest_yard(self):
        yard = Yard(20, 20, [], [("june", 1, [DOWN] * 24)])
        told = shady_walk(yard, 0, (19, 0), (8, 12))
        self.assertEqual(told[:2], ("walk", 24))
        self.check_walk(yard, 0, (19, 0), (8, 12), 24, told[2])
        self.assertEqual(shady_walk(yard, 0, (19, 0), (7, 12))[0], "none")
        self.assertEqual([len(told[3]), len(told[3][0])], [24, 400])

    def test_by_chance(self):
        chance = random.Random(101)
        words = []
        for k in range(60):
            width, height = chance.randint(1, 4), chance.randint(1, 4)
            yard = yard_by(chance, width, height, chance.randint(0, 4), [chance.randint(1, 5), chance.randint(1, 5)])
            start, goal = chance.choice(stones_in(yard)), chance.choice(stones_in(yard))
            words.append(self.check(yard, chance.randint(0, 1), start, goal)[0])
        self.assertGreater(words.count("walk"), 9)
        self.assertGreater(words.count("none"), 9)

    def test_what_is_done_to_the_lists_changes_nothing_later(self):
        yard = Yard(2, 1, [], [("june", 1, [DOWN, DOWN])])
        told = shady_walk(yard, 0, (0, 0), (1, 0))
        told[2].clear()
        told[3][0][0] = 99
        told[3].pop()
        self.assertEqual(shady_walk(yard, 0, (0, 0), (1, 0)), ("walk", 2, [(0, 0), (1, 0)], [[2, 1], [None, 1]]))
        rows = shady_walk(yard, 0, (0, 0), (0, 0))[3]
        self.assertIsNot(rows[0], rows[1])


class Refusals(Case):
    def setUp(self):
        self.yard = Yard(3, 2, [], [("june", 1, [DOWN] * 4), ("may", 1, [None])])

    def refused(self, error, fields, day, start, goal):
        ahead = shady_walk(self.yard, 0, (0, 0), (2, 1))
        with self.assertRaises(error) as taken:
            shady_walk(self.yard, day, start, goal)
        self.assertIs(type(taken.exception), error)
        self.assertEqual(vars(taken.exception), fields)
        self.assertEqual(shady_walk(self.yard, 0, (0, 0), (2, 1)), ahead)

    def test_the_start(self):
        for start in [(-1, 0), (3, 0), (0, -1), (0, 2), (FAR, 0), (0, -FAR)]:
            self.refused(NoStone, {"stone": start}, 0, start, (0, 0))

    def test_the_goal(self):
        for goal in [(-1, 0), (3, 0), (0, -1), (0, 2), (FAR, 0), (0, -FAR)]:
            self.refused(NoStone, {"stone": goal}, 0, (0, 0), goal)

    def test_the_day(self):
        for day in (-1, 2, 3, FAR, -FAR):
            self.refused(NoTurn, {"day": day, "turn": None}, day, (0, 0), (2, 1))

    def test_their_order(self):
        self.refused(NoStone, {"stone": (3, 0)}, 2, (3, 0), (9, 9))
        self.refused(NoStone, {"stone": (3, 0)}, 0, (3, 0), (9, 9))
        self.refused(NoStone, {"stone": (9, 9)}, 2, (0, 0), (9, 9))
        self.refused(NoStone, {"stone": (-1, 0)}, -1, (-1, 0), (0, 0))
