"""Of some points and one more: weights by which they come to it, or a line that parts it from them.

A line (l, m, n) holds the pairs (X, Y) for which l X + m Y is at most n.
"""

from shadowpost.ratios import ratio


def holds(line, pair):
    return line[0] * pair[0] + line[1] * pair[1] <= line[2]


def box_lines(points):
    rights = [point[0] for point in points]
    downs = [point[1] for point in points]
    return [(1, 0, max(rights)), (-1, 0, -min(rights)), (0, 1, max(downs)), (0, -1, -min(downs))]


def line_through(one, other):
    l = other[1] - one[1]
    m = one[0] - other[0]
    return (l, m, l * one[0] + m * one[1])


def each_once(points):
    kept = []
    for point in points:
        if point not in kept:
            kept.append(point)
    return kept


def edge_lines(points):
    lines = []
    apart = each_once(points)
    for one in apart:
        for other in apart:
            line = line_through(one, other)
            if one != other and all([holds(line, point) for point in apart]):
                lines.append(line)
    return lines


# Points that are not all on one line are held by their edges alone; points on one line have both its
# sides for edges, and the box keeps what lies on it beyond their ends out; one point is its own box.
def lines_about(points):
    return box_lines(points) + edge_lines(points)


def parting_line(points, point):
    for line in lines_about(points):
        if not holds(line, point):
            return line
    return None


def turned(one, other, third):
    right = (other[0] - one[0]) * (third[1] - one[1])
    return right - (other[1] - one[1]) * (third[0] - one[0])


def shares_of_three(corners, point):
    one = corners[0]
    other = corners[1]
    third = corners[2]
    return [turned(point, other, third), turned(one, point, third), turned(one, other, point)]


def shares_of_two(ends, point):
    right = ends[1][0] - ends[0][0]
    down = ends[1][1] - ends[0][1]
    gone = right * (point[0] - ends[0][0]) + down * (point[1] - ends[0][1])
    return [right * right + down * down - gone, gone]


# Corners on one line, or ends at one place, have shares that sum to 0 and tell nothing.
def are_weights(shares):
    whole = sum(shares)
    return whole != 0 and all([share * whole >= 0 for share in shares])


def spread(shares, places, many):
    whole = sum(shares)
    weights = [ratio(0, whole) for place in range(many)]
    for share, place in zip(shares, places):
        weights[place] = ratio(share, whole)
    return weights


def pairs_below(many):
    pairs = []
    for second in range(many):
        pairs.extend([(first, second) for first in range(second)])
    return pairs


def triples_below(many):
    triples = []
    for third in range(many):
        triples.extend([(pair[0], pair[1], third) for pair in pairs_below(third)])
    return triples


# Asked only of a point that no line parts: then three of the points that are not on one line hold it,
# or, where all are on one line, two of them do, or, where all are one, each is the point.
def weights_of(points, point):
    many = len(points)
    for places in triples_below(many):
        shares = shares_of_three([points[place] for place in places], point)
        if are_weights(shares):
            return spread(shares, places, many)
    for places in pairs_below(many):
        shares = shares_of_two([points[place] for place in places], point)
        if are_weights(shares):
            return spread(shares, places, many)
    return spread([1], [0], many)


def held(points, point):
    line = parting_line(points, point)
    if line is None:
        return ("in", weights_of(points, point))
    return ("out", line)
