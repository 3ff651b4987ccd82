"""Pictures of points in rows of walls, and the straight line that a flight becomes when the room is unfolded."""

from bouncewise.flights import flown


def mirror_in(wall):
    def image_in_wall(P):
        return wall.image(P)
    return image_in_wall


def picture(room, row, P):
    walls = room.walls()
    point = P
    for number in reversed(row):
        point = walls[number].image(point)
    return point


# No heading goes along the wall that is hit, since that would come to the wall's end, a corner: so a heading that is
# mirrored there is changed by it.
def turners(room, hits, heading):
    numbers = []
    ahead = heading
    for hit in hits:
        if hit[3] != ahead:
            numbers.append(hit[0])
        ahead = hit[3]
    return numbers


def unfolded(room, P, heading, most=12):
    hits = flown(room, P, heading, most)[0]
    told = []
    for count, hit in enumerate(hits):
        row = turners(room, hits[:count], heading)
        told.append((hit[1], picture(room, row, hit[2])))
    return told
