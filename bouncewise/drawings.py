"""Rooms as drawings: signs for whole points and the places halfway between them."""

from bouncewise.errors import BadDrawing, OutOfBox, TooMany
from bouncewise.headings import heading_of
from bouncewise.rooms import Room
from bouncewise.walls import Mirror

MOST_SIDE = 40
MOST_SIGNS = 81

# All by the number of the line: its sign, the signs that lead along it, and the step down and to the right along it
# from a wall's lesser end to the greater.
SIGNS = ("-", "/", "|", "\\")
LEADING = ("-", "/X", "|", "\\X")
STEPS = ((0, 1), (-1, 1), (-1, 0), (1, 1))


def check_within(room, wide, high):
    if wide > MOST_SIDE or high > MOST_SIDE:
        raise TooMany("a drawing is at most 40 wide and 40 high")
    box = room.box()
    if box is not None and (box[0] < 0 or box[1] < 0 or box[2] > wide or box[3] > high):
        raise OutOfBox("a wall does not lie within the drawing")


# Counted in halves, so that the places of all signs are whole numbers.
def places_of(wall):
    right = wall.two[0] - wall.one[0]
    up = wall.two[1] - wall.one[1]
    step = heading_of(right, up)
    halves = 2 * max(right, abs(up))
    left = 2 * wall.one[0]
    low = 2 * wall.one[1]
    return [(left + step[0] * half, low + step[1] * half) for half in range(halves + 1)]


def lines_by_place(room):
    lines = {}
    for wall in room.walls():
        for place in places_of(wall):
            lines[place] = lines.get(place, []) + [wall.line()]
    return lines


def whole_sign(room, lines, place):
    if len(lines) == 0:
        return "."
    if room.is_corner((place[0] // 2, place[1] // 2, 1)):
        return "+"
    return SIGNS[lines[0]]


# Two walls that are halfway at one place are a rising and a falling one.
def halfway_sign(lines):
    if len(lines) == 0:
        return " "
    return "X" if len(lines) == 2 else SIGNS[lines[0]]


def sign_of(room, lines, place):
    if place[0] % 2 == 0 and place[1] % 2 == 0:
        return whole_sign(room, lines, place)
    return halfway_sign(lines)


def drawn(room, wide, high):
    check_within(room, wide, high)
    lines = lines_by_place(room)
    rows = []
    for up in range(2 * high, -1, -1):
        places = [(right, up) for right in range(2 * wide + 1)]
        rows.append("".join([sign_of(room, lines.get(place, []), place) for place in places]))
    return rows


def check_sizes(rows):
    if len(rows) % 2 == 0 or len(rows) > MOST_SIGNS:
        raise BadDrawing(0)
    length = len(rows[0])
    if length % 2 == 0 or length > MOST_SIGNS:
        raise BadDrawing(0)
    for number, row in enumerate(rows):
        if len(row) != length:
            raise BadDrawing(number)


# Beyond the drawing nothing is drawn.
def sign_at(rows, down, right):
    if down < 0 or down >= len(rows) or right < 0 or right >= len(rows[0]):
        return " "
    return rows[down][right]


def leads_by(rows, down, right, line, way):
    step = STEPS[line]
    return sign_at(rows, down + way * step[0], right + way * step[1]) in LEADING[line]


# The line of each place beside that leads here, so that one that goes through stands twice.
def lines_leading(rows, down, right):
    lines = []
    for line in range(len(SIGNS)):
        for way in (-1, 1):
            if leads_by(rows, down, right, line, way):
                lines.append(line)
    return lines


def stands_whole(sign, lines):
    if len(lines) == 0:
        return sign == "."
    return sign == "+" or len(lines) == 2 and lines[0] == lines[1] and sign == SIGNS[lines[0]]


def stands_well(rows, down, right):
    sign = rows[down][right]
    if down % 2 == 0 and right % 2 == 0:
        return stands_whole(sign, lines_leading(rows, down, right))
    if down % 2 == 0:
        return sign in " -"
    if right % 2 == 0:
        return sign in " |"
    return sign in " /\\X"


def check_signs(rows):
    for down, row in enumerate(rows):
        if not all([stands_well(rows, down, right) for right in range(len(row))]):
            raise BadDrawing(down)


def whole_point(rows, down, right):
    return (right // 2, (len(rows) - 1 - down) // 2)


# Where all signs stand well, whoever goes along drawn ones comes to a corner.
def next_corner(rows, down, right, line):
    step = STEPS[line]
    far = 2
    while rows[down + far * step[0]][right + far * step[1]] != "+":
        far += 2
    return whole_point(rows, down + far * step[0], right + far * step[1])


def ends_from(rows, down, right):
    one = whole_point(rows, down, right)
    lines = [line for line in range(len(SIGNS)) if leads_by(rows, down, right, line, 1)]
    return [(one, next_corner(rows, down, right, line)) for line in lines]


def read_drawing(rows):
    check_sizes(rows)
    check_signs(rows)
    ends = []
    for down, row in enumerate(rows):
        for right, sign in enumerate(row):
            if sign == "+":
                ends.extend(ends_from(rows, down, right))
    return Room([Mirror(pair[0], pair[1]) for pair in sorted(ends)])
