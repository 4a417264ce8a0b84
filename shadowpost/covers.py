"""The choice of the least price among all that meet every want.

Sets of wants and choices are whole numbers: k is in the set where its bit k is set.
"""


def set_of_true(truths):
    bits = 0
    for number, truth in enumerate(truths):
        if truth:
            bits |= 1 << number
    return bits


def least_missing(met, many):
    for want in range(many):
        if not met >> want & 1:
            return want
    return None


def chosen(values, choice):
    return [value for number, value in enumerate(values) if choice >> number & 1]


def met_by(covers, choice, base):
    met = base
    for cover in chosen(covers, choice):
        met |= cover
    return met


def cheapest(prices, choices):
    # Rising choices and the first least one: of several at one price the least number is kept.
    return min(choices, key=lambda choice: sum(chosen(prices, choice)))


def least_choice(prices, covers, many, base=0):
    paper = [least_missing(met_by(covers, choice, base), many) for choice in range(1 << len(prices))]
    if paper[-1] is not None:
        return ("none", paper[-1])
    choice = cheapest(prices, [number for number, want in enumerate(paper) if want is None])
    return ("choice", choice, sum(chosen(prices, choice)), paper)
