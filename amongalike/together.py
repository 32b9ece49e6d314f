"""What several shown tables tell together of whose a secret is."""

from amongalike.showing import classes
from amongalike.tables import SECRETS


def told_classes(table, ways):
    told = []
    for way in ways:
        told.extend([members for members in classes(table, way) if members not in told])
    return told


def places_of(told, row):
    return [place for place, members in enumerate(told) if row in members]


def secrets_in(table, members):
    return tuple(sorted([table[2][row] for row in members]))


def without_one(secrets, secret):
    place = secrets.index(secret)
    return secrets[:place] + secrets[place + 1:]


def left_after(left, row_places, secret):
    after = list(left)
    for place in row_places:
        after[place] = without_one(left[place], secret)
    return tuple(after)


def free_secrets(left, row_places):
    first = left[row_places[0]]
    return [secret for secret in sorted(set(first)) if all([secret in left[place] for place in row_places])]


def can_be_dealt(rows, left, places, failed):
    if not rows:
        return True
    if (rows, left) in failed:
        return False
    # The row with the fewest free secrets comes first: so it shows early where it can't be done.
    row = min(rows, key=lambda number: len(free_secrets(left, places[number])))
    others = tuple([number for number in rows if number != row])
    for secret in free_secrets(left, places[row]):
        if can_be_dealt(others, left_after(left, places[row], secret), places, failed):
            return True
    failed[(rows, left)] = True
    return False


def possible(table, ways, row):
    if not ways:
        return tuple(range(SECRETS))
    told = told_classes(table, ways)
    left = tuple([secrets_in(table, members) for members in told])
    rows = list(range(len(table[1])))
    places = [places_of(told, number) for number in rows]
    others = tuple([number for number in rows if number != row])
    failed = {}
    found = []
    for secret in free_secrets(left, places[row]):
        if can_be_dealt(others, left_after(left, places[row], secret), places, failed):
            found.append(secret)
    return tuple(found)


def found_out(table, ways):
    return tuple([row for row in range(len(table[1])) if len(possible(table, ways, row)) == 1])


def greatest_divisor(one, other):
    while other > 0:
        rest = one % other
        one = other
        other = rest
    return one


def class_of(table, way, row):
    return [members for members in classes(table, way) if row in members][0]


def guess_share(table, way, row):
    members = class_of(table, way, row)
    upper = secrets_in(table, members).count(table[2][row])
    divisor = greatest_divisor(upper, len(members))
    return (upper // divisor, len(members) // divisor)
