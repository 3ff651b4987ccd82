"""The rows of walls by which light may come."""

from bouncewise.errors import TooMany

MOST_ROWS = 600


def turning(room):
    return [number for number, wall in enumerate(room.walls()) if wall.turns()]


# Stops at the first length that makes them too many, since the numbers of rows grow without bound.
def check_few(choices, most):
    total = 1
    as_long = choices
    for length in range(most):
        total += as_long
        as_long *= choices - 1
        if total > MOST_ROWS:
            raise TooMany("there are more than 600 rows")


def made_longer(row, numbers):
    return [row + [number] for number in numbers if row[-1:] != [number]]


def rows_of(room, most):
    numbers = turning(room)
    check_few(len(numbers), most)
    rows = [[]]
    longest = [[]]
    for length in range(most):
        longer = []
        for row in longest:
            longer.extend(made_longer(row, numbers))
        rows.extend(longer)
        longest = longer
    return rows
