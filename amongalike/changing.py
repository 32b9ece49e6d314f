"""Tables changed: their rows, their columns and the names of their secrets."""


def in_order(table, order):
    rows = tuple([table[1][number] for number in order])
    secrets = tuple([table[2][number] for number in order])
    return (table[0], rows, secrets)


def with_row(table, row, secret):
    return (table[0], table[1] + (row,), table[2] + (secret,))


def without_row(table, number):
    return in_order(table, [other for other in range(len(table[1])) if other != number])


def with_places_changed(parts, one, other):
    changed = list(parts)
    changed[one] = parts[other]
    changed[other] = parts[one]
    return tuple(changed)


def swapped(table, one, other):
    ladders = with_places_changed(table[0], one, other)
    rows = tuple([with_places_changed(row, one, other) for row in table[1]])
    return (ladders, rows, table[2])


def secrets_renamed(table, names):
    return (table[0], table[1], tuple([names[secret] for secret in table[2]]))
