"""Dials: the stone on which the end of a pointer's shadow lies tells the turn."""

from shadowpost.rays import cast, number_of
from shadowpost.things import is_height, is_place
from shadowpost.yards import has_stone, turns_of


def is_pointer(pointer):
    return is_place(pointer[0]) and is_place(pointer[1]) and is_height(pointer[2])


def end_of(pointer, ray):
    end = cast(pointer, ray)
    unit = ray[2]
    # Rounded down, the edge of two stones goes to the right one, the lower one.
    return ((end[0] + unit) // (2 * unit), (end[1] + unit) // (2 * unit))


def ends_by_turn(yard, pointer):
    ends = []
    for day in range(len(yard.days)):
        for number, turn in enumerate(turns_of(yard, day)):
            if turn is not None:
                ends.append((day, number, end_of(pointer, turn)))
    return ends


def first_off(yard, ends):
    for day, turn, stone in ends:
        if not has_stone(yard, stone):
            return ("off", day, turn)
    return None


# Where no fault was told yet, all ends ahead on one stone have one turn's number, so the first of
# them is the one to be told.
def first_alike(ends):
    seen = {}
    for day, turn, stone in ends:
        ahead = seen.setdefault(stone, (day, turn))
        if ahead[1] != turn:
            return ("alike", ahead, (day, turn))
    return None


def marks_of(yard, ends):
    marks = {}
    for day, turn, stone in ends:
        marks[number_of(stone, yard.width)] = turn
    return sorted(marks.items())


def dial(yard, pointer):
    ends = ends_by_turn(yard, pointer)
    fault = first_off(yard, ends)
    if fault is None:
        fault = first_alike(ends)
    if fault is None:
        return ("marks", marks_of(yard, ends))
    return fault


def turn_at(marks, number):
    for marked, turn in marks:
        if marked == number:
            return turn
    return None


def least_pointer(yard, x, y, most):
    faults = []
    for h in range(1, most + 1):
        told = dial(yard, (x, y, h))
        if told[0] == "marks":
            return ("height", h, told[1], faults)
        faults.append(told)
    return ("none", faults)
