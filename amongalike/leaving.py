"""Rows left out: those in classes of too few rows, and what is lost with them."""

from amongalike.showing import all_ways, classes, row_loss, steps_by


def left_out(table, way, many):
    rows = []
    for members in classes(table, way):
        if len(members) < many:
            rows.extend(members)
    return tuple(sorted(rows))


def left_out_loss(table):
    return sum([len(ladder[0]) - 1 for ladder in table[0]])


def loss_with(table, way, many):
    steps = steps_by(table, way)
    gone = left_out(table, way, many)
    kept = [row for number, row in enumerate(table[1]) if number not in gone]
    return sum([row_loss(steps, row) for row in kept]) + len(gone) * left_out_loss(table)


def best_with(table, many, most):
    ways = [way for way in all_ways(table) if len(left_out(table, way, many)) <= most]
    # Of pairs with equal losses the least one has the first way.
    return min([(loss_with(table, way, many), way) for way in ways], default=None)
