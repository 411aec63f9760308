"""Points of the plane with integers as coordinates, and the least polygons that enclose them."""


def hull(points):
    """Return the corners of different points in ascending order: the first one, and the others counterclockwise."""
    if len(points) == 1:
        return list(points)
    return _chain(points)[:-1] + _chain(points[::-1])[:-1]


def _chain(points):
    """Return the points that are left if all are gone through with turns to the left only."""
    kept = []
    for point in points:
        while len(kept) > 1 and _turn(kept[-2], kept[-1], point) <= 0:
            kept.pop()
        kept.append(point)
    return kept


def _turn(start, middle, end):
    """Return the enclosed area, twice: above 0 for a turn to the left, and below 0 for one to the right."""
    return ((middle[0] - start[0]) * (end[1] - start[1])
            - (middle[1] - start[1]) * (end[0] - start[0]))


def along(direction, point):
    """Return how far a point lies in a direction."""
    return direction[0] * point[0] + direction[1] * point[1]


def right_of(start, end):
    """Return the direction to the right of the way from one point to another one."""
    return (end[1] - start[1], start[0] - end[0])


def barring(corners, point):
    """Return a direction in which a point lies farther than all corners, None if they enclose it."""
    directions = [right_of(corners[at - 1], corners[at]) for at in range(len(corners))]
    # Points on a line, or a single one, do not have sides in all directions.
    directions.extend([(point[0] - corner[0], point[1] - corner[1]) for corner in corners])
    for direction in directions:
        if max([along(direction, corner) for corner in corners]) < along(direction, point):
            return direction
    return None


def blend(corners, point):
    """Return weights from 0 on, not all 0, with which at most three corners have the point, enclosed by them, as mean.

    They are told as tuples (place of the corner, weight).
    """
    if len(corners) == 1:
        return [(0, 1)]
    if len(corners) == 2:
        return _blend_of_two(corners, point)
    for at in range(2, len(corners)):
        weights = [_turn(corners[at - 1], corners[at], point),
                   _turn(corners[at], corners[0], point),
                   _turn(corners[0], corners[at - 1], point)]
        if min(weights) >= 0:
            return list(zip([0, at - 1, at], weights))
    return []


def _blend_of_two(corners, point):
    """Return the weights for a point between two corners."""
    start, end = corners
    direction = (end[0] - start[0], end[1] - start[1])
    gone = along(direction, point) - along(direction, start)
    return [(0, along(direction, end) - along(direction, start) - gone), (1, gone)]
