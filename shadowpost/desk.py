"""A desk: a yard's text is laid on it, and rows of words ask of the yard or change it."""

from shadowpost.darks import dark, who
from shadowpost.dials import dial, is_pointer
from shadowpost.errors import BadThing, NoDay, NoRow
from shadowpost.lit import first_lit, hours, lit_turns
from shadowpost.rays import number_of, stone_at
from shadowpost.things import thing_of
from shadowpost.walks import shady_walk
from shadowpost.words import numbers_of
from shadowpost.yards import MOST_THINGS, Yard, check_stone, check_turn, turns_of
from shadowpost.yardtexts import read_yard, show_yard


def name_of(yard, day):
    return yard.days[day][0]


def day_called(yard, name):
    for day in range(len(yard.days)):
        if name_of(yard, day) == name:
            return day
    raise NoDay(name)


def pair_text(stone):
    return ",".join([str(number) for number in stone])


def answer_show(yard, values):
    return show_yard(yard).replace("\n", "; ")


def answer_dark(yard, values):
    check_turn(yard, values[0], values[1])
    bits = dark(yard, turns_of(yard, values[0])[values[1]])
    width = yard.width
    signs = ["#" if bits >> number & 1 else "." for number in range(width * yard.height)]
    return "/".join(["".join(signs[q * width:q * width + width]) for q in range(yard.height)])


def answer_who(yard, values):
    stone = (values[2], values[3])
    check_stone(yard, stone)
    check_turn(yard, values[0], values[1])
    turn = turns_of(yard, values[0])[values[1]]
    if turn is None:
        return "night"
    number = who(yard, turn)[number_of(stone, yard.width)]
    return "-" if number is None else str(number)


def answer_lit(yard, values):
    turns = lit_turns(yard, values[0], (values[1], values[2]))
    return " ".join([str(turn) for turn in turns]) if turns else "-"


def answer_hours(yard, values):
    stone = (values[0], values[1])
    check_stone(yard, stone)
    return str(hours(yard)[number_of(stone, yard.width)])


def answer_first(yard, values):
    first = first_lit(yard, (values[0], values[1]))
    return "-" if first is None else turn_text(yard, first[0], first[1])


def turn_text(yard, day, turn):
    name = name_of(yard, day)
    return f"{name} {turn}"


def answer_walk(yard, values):
    told = shady_walk(yard, values[0], (values[1], values[2]), (values[3], values[4]))
    if told[0] == "none":
        return "none"
    return " ".join([str(told[1])] + [pair_text(stone) for stone in told[2]])


def mark_text(yard, number, turn):
    place = pair_text(stone_at(number, yard.width))
    return f"{place}={turn}"


def answer_dial(yard, values):
    pointer = (values[0], values[1], values[2])
    if not is_pointer(pointer):
        raise BadThing()
    told = dial(yard, pointer)
    if told[0] == "off":
        return " ".join(["off", turn_text(yard, told[1], told[2])])
    if told[0] == "alike":
        return " ".join(["alike"] + [turn_text(yard, day, turn) for day, turn in told[1:]])
    return " ".join(["marks"] + [mark_text(yard, number, turn) for number, turn in told[1]])


# For each first word: how many days' names stand behind it, how many numbers behind these, and what
# answers, by the yard and by the numbers of the days and the numbers.
ROWS = {
    "show": (0, 0, answer_show),
    "dark": (1, 1, answer_dark),
    "who": (1, 3, answer_who),
    "lit": (1, 2, answer_lit),
    "hours": (0, 2, answer_hours),
    "first": (0, 2, answer_first),
    "walk": (1, 4, answer_walk),
    "dial": (0, 3, answer_dial),
}


def numbers_behind(words, place):
    numbers = numbers_of(words[place:])
    if numbers is None:
        raise NoRow()
    return numbers


def answer(yard, words):
    if words[0] not in ROWS:
        raise NoRow()
    form = ROWS[words[0]]
    names = words[1:1 + form[0]]
    if len(words) != 1 + form[0] + form[1]:
        raise NoRow()
    numbers = numbers_behind(words, 1 + form[0])
    return form[2](yard, [day_called(yard, name) for name in names] + numbers)


def with_thing(yard, words):
    if len(words) < 2:
        raise NoRow()
    numbers = numbers_behind(words, 2)
    if len(yard.things) == MOST_THINGS:
        raise NoRow()
    return Yard(yard.width, yard.height, yard.things + [thing_of(words[1], numbers)], yard.days)


def without_thing(yard, words):
    if len(words) != 2:
        raise NoRow()
    number = numbers_behind(words, 1)[0]
    if not 0 <= number < len(yard.things):
        raise NoRow()
    return Yard(yard.width, yard.height, yard.things[:number] + yard.things[number + 1:], yard.days)


class Desk:
    def __init__(self, text):
        self.yard = read_yard(text)

    def say(self, row):
        words = row.split(" ")
        if words[0] == "put":
            self.yard = with_thing(self.yard, words)
            return "ok"
        if words[0] == "take":
            self.yard = without_thing(self.yard, words)
            return "ok"
        return answer(self.yard, words)
