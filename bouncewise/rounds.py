"""Coming round: what comes of a flight, and when at the latest it comes round."""

from bouncewise.errors import TooLong
from bouncewise.flights import Flight
from bouncewise.points import time_between

MOST_HITS = 600


def latest(room):
    box = room.box()
    if box is None:
        return 0
    time = 8 * (box[2] - box[0] + 1) * (box[3] - box[1] + 1)
    for wall in room.walls():
        time *= wall.every()
    return time


# Walls other than doors have the number 1, of which each count is a multiple.
def doors_as_at_first(room, counts):
    return all([count % wall.every() == 0 for wall, count in zip(room.walls(), counts)])


# Of an outcome that is met somewhere, the last but one is its time.
def ended(outcome, count):
    time = None if outcome == ("away",) else outcome[-2]
    return (outcome[0], time, count)


# No wall lies between the begin and the place of the first hit. So whoever comes to that place again with the begin's
# heading has come through the begin, as long ahead as at first; and whoever comes through the begin with it comes there
# next.
def round_of(room, P, heading):
    flight = Flight(room, P, heading)
    first = None
    for count in range(MOST_HITS + 1):
        ahead = flight.standing()[1]
        counts = flight.counts()
        hit = flight.step()
        if hit is None:
            return ended(flight.outcome(), count)
        if first is None:
            first = hit
        elif hit[2] == first[2] and ahead == heading and doors_as_at_first(room, counts):
            return ("round", time_between(first[1], hit[1]), count)
    raise TooLong("more than 600 hits are not told")
