"""The times at which walls are met, and the first meeting."""

from bouncewise.headings import across
from bouncewise.points import sooner, spot_at, time_of


def soonest(times):
    least = None
    for t in times:
        if least is None or sooner(t, least):
            least = t
    return least


def time_to_end(end, P, heading):
    part = 1 if heading[0] == 0 else 0
    return time_of(end[part] * P[2] - P[part], heading[part] * P[2])


def time_along(wall, P, heading):
    times = [time_to_end(end, P, heading) for end in (wall.one, wall.two)]
    return soonest([t for t in times if t[0] > 0])


def time_to(wall, P, heading):
    line = wall.line()
    speed = across(line, heading[0], heading[1])
    gap = wall.offset() * P[2] - across(line, P[0], P[1])
    if speed == 0:
        return time_along(wall, P, heading) if gap == 0 else None
    t = time_of(gap, speed * P[2])
    if t[0] > 0 and wall.holds(spot_at(P, heading, t)):
        return t
    return None


def first_met(room, P, heading):
    times = [time_to(wall, P, heading) for wall in room.walls()]
    least = soonest([t for t in times if t is not None])
    if least is None:
        return None
    point = spot_at(P, heading, least)
    return (least, point, room.on(point))
