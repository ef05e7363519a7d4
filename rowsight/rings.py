"""Whole rows cut into rings, and rings laid out as the whole row of which they come."""

from rowsight.errors import BadRings
from rowsight.rows import MOST_HEIGHTS, check_whole_row, front, has_each_once


def joined(rings):
    heights = []
    for ring in rings:
        heights.extend(ring)
    return heights


def check_rings(rings):
    if not isinstance(rings, list) or not all([isinstance(ring, list) for ring in rings]):
        raise BadRings("rings are a list of lists")
    if not all([len(ring) > 0 for ring in rings]):
        raise BadRings("no ring is empty")
    heights = joined(rings)
    if len(heights) < 1 or len(heights) > MOST_HEIGHTS:
        raise BadRings(f"rings have 1 to {MOST_HEIGHTS} heights")
    if not has_each_once(heights, len(heights)):
        raise BadRings("rings have all heights from 1 on, each once")


def rings_of(row):
    check_whole_row(row)
    starts = front(row)
    ends = starts[1:] + [len(row)]
    return [row[start:end] for start, end in zip(starts, ends)]


def begun_at_greatest(ring):
    place = ring.index(max(ring))
    return ring[place:] + ring[:place]


def row_of(rings):
    check_rings(rings)
    # The greatest of a ring comes first in it and is in no other, so it alone settles the order.
    return joined(sorted([begun_at_greatest(ring) for ring in rings]))


def behind(rings):
    check_rings(rings)
    followers = {}
    for ring in rings:
        for height, follower in zip(ring, ring[1:] + ring[:1]):
            followers[height] = follower
    return [followers[height] for height in sorted(followers)]
