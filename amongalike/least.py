"""The safe ways that lose least, and papers that part all ways into safe ones and others."""

from amongalike.showing import all_ways, is_coarser, is_safe, loss
from amongalike.tables import is_way


def safe_ways(table, many):
    return [way for way in all_ways(table) if is_safe(table, way, many)]


def unsafe_ways(table, many):
    return [way for way in all_ways(table) if not is_safe(table, way, many)]


def is_coarser_than_some(way, others):
    return any([is_coarser(way, other) for other in others])


def is_less_coarse_than_some(way, others):
    return any([is_coarser(other, way) for other in others])


def least_safe(table, many):
    ways = safe_ways(table, many)
    return tuple([way for way in ways if not is_coarser_than_some(way, ways)])


def greatest_unsafe(table, many):
    ways = unsafe_ways(table, many)
    return tuple([way for way in ways if not is_less_coarse_than_some(way, ways)])


def least_loss(table, many):
    # Of pairs with equal losses the least one has the first way.
    return min([(loss(table, way), way) for way in safe_ways(table, many)], default=None)


def are_ways(table, thing):
    return isinstance(thing, tuple) and all([is_way(table, part) for part in thing])


def is_settled(way, safe_ones, others):
    if way in safe_ones or is_coarser_than_some(way, safe_ones):
        return True
    return way in others or is_less_coarse_than_some(way, others)


def is_paper(table, many, thing):
    if not isinstance(thing, tuple) or len(thing) != 2:
        return False
    safe_ones = thing[0]
    others = thing[1]
    if not are_ways(table, safe_ones) or not are_ways(table, others):
        return False
    if not all([is_safe(table, way, many) for way in safe_ones]):
        return False
    if any([is_safe(table, way, many) for way in others]):
        return False
    return all([is_settled(way, safe_ones, others) for way in all_ways(table)])
