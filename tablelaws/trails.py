"""Trails: orders in which all arrows of a list lead from one point to another."""

from tablelaws.perms import sign


def trails(arrows, start, end):
    """Yields the trails through a list of arrows from one point to another, in ascending order."""
    begun = [((), start)]
    for _ in arrows:
        begun = [(trail + (number,), arrow[1]) for trail, point in begun
                 for number, arrow in enumerate(arrows, start=1) if number not in trail and arrow[0] == point]
    for trail, point in begun:
        if point == end:
            yield trail


def balance(arrows, start, end):
    """Returns the number of the trails with the sign 1 minus the number of those with the sign -1."""
    return sum([sign(trail) for trail in trails(arrows, start, end)])
