"""Walks from stone to stone that are in the light at as few turns as any."""

from shadowpost.darks import dark
from shadowpost.rays import number_of, stone_at
from shadowpost.yards import check_day, check_stone, has_stone, turns_of

STEPS = ((-1, 0), (1, 0), (0, -1), (0, 1), (0, 0))


def numbers_beside(yard, number):
    stone = stone_at(number, yard.width)
    around = [(stone[0] + right, stone[1] + down) for right, down in STEPS]
    return [number_of(other, yard.width) for other in around if has_stone(yard, other)]


# The best stone to be on at the next turn, costs being the paper's for that turn; None where the
# goal can't be come to from any.
def best_step(yard, number, costs):
    leading = [other for other in numbers_beside(yard, number) if costs[other] is not None]
    return min(leading, key=lambda other: costs[other], default=None)


def cost_behind(yard, number, goal, costs):
    # No walk is made less by going on behind the goal, so it ends as soon as it is there.
    if number == goal:
        return 0
    step = best_step(yard, number, costs)
    return None if step is None else costs[step]


def costs_at(yard, turn, goal, later):
    bits = dark(yard, turn)
    costs = []
    for number in range(yard.width * yard.height):
        behind = cost_behind(yard, number, goal, later)
        lit = 1 - (bits >> number & 1)
        costs.append(None if behind is None else lit + behind)
    return costs


def paper_of(yard, day, goal):
    rising = []
    costs = [None for number in range(yard.width * yard.height)]
    for turn in reversed(turns_of(yard, day)):
        costs = costs_at(yard, turn, goal, costs)
        rising.append(costs)
    return list(reversed(rising))


def walked(yard, start, goal, paper):
    numbers = [start]
    while numbers[-1] != goal:
        numbers.append(best_step(yard, numbers[-1], paper[len(numbers)]))
    return [stone_at(number, yard.width) for number in numbers]


def shady_walk(yard, day, start, goal):
    check_stone(yard, start)
    check_stone(yard, goal)
    check_day(yard, day)
    first = number_of(start, yard.width)
    last = number_of(goal, yard.width)
    paper = paper_of(yard, day, last)
    if paper[0][first] is None:
        return ("none", paper)
    return ("walk", paper[0][first], walked(yard, first, last, paper), paper)
