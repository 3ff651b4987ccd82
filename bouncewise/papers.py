"""Papers: whether light comes from place to place by a row of walls, and what is met instead."""

from bouncewise.flights import Flight, check_off_walls
from bouncewise.headings import heading_of
from bouncewise.light import rows_of
from bouncewise.pictures import picture, turners
from bouncewise.points import divisor, sooner, spot_at, time_between, time_of


# The heading that leads from P to another point R, and the time at which it comes there.
def straight_way(P, R):
    right = R[0] * P[2] - P[0] * R[2]
    up = R[1] * P[2] - P[1] * R[2]
    return (heading_of(right, up), time_of(divisor(right, up), P[2] * R[2]))


def begins_with(row, numbers):
    return row[:len(numbers)] == numbers


# Ends with the first hit that leads off the row, since behind it there may be more hits ahead of T than could be told.
def hits_ahead(room, flight, row, T):
    hits = []
    turned = []
    ahead = flight.standing()[1]
    hit = flight.step()
    while hit is not None and sooner(hit[1], T):
        hits.append(hit)
        turned.extend(turners(room, [hit], ahead))
        if not begins_with(row, turned):
            break
        ahead = hit[3]
        hit = flight.step()
    return hits


# Of an outcome that is met somewhere, the last two are its time and its point.
def outcome_ahead(flight, T):
    outcome = flight.outcome()
    if outcome is None or outcome == ("away",) or not sooner(outcome[-2], T):
        return None
    return outcome


def spot_behind(P, heading, hits, T):
    if len(hits) == 0:
        return spot_at(P, heading, T)
    last = hits[-1]
    return spot_at(last[2], last[3], time_between(last[1], T))


def flown_paper(room, P, Q, row, R):
    way = straight_way(P, R)
    heading = way[0]
    T = way[1]
    flight = Flight(room, P, heading)
    hits = hits_ahead(room, flight, row, T)
    turned = turners(room, hits, heading)
    if not begins_with(row, turned):
        return ("other", heading, hits, hits[-1][2])
    outcome = outcome_ahead(flight, T)
    if outcome is not None:
        return (outcome[0], heading, hits, outcome[-1])
    if len(turned) < len(row):
        return ("short", heading, hits, spot_behind(P, heading, hits, T))
    return ("comes", heading, hits, Q)


def paper(room, P, Q, row):
    check_off_walls(room, P)
    check_off_walls(room, Q)
    R = picture(room, row, Q)
    if R == P:
        return ("here", None, [], P)
    return flown_paper(room, P, Q, row, R)


def ways(room, P, Q, most=1):
    told = []
    for row in rows_of(room, most):
        written = paper(room, P, Q, row)
        if written[0] == "comes":
            told.append((row, written[1]))
    return told
