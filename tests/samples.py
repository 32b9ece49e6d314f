"""Ladders, tables and wrong things for the tests, made straight from the document's words."""

from functools import lru_cache
from itertools import product


def nested(depth, inner, kind):
    thing = inner
    for _ in range(depth):
        thing = kind([thing])
    return thing


# None of these is right at any place of a ladder, of a table or of a way.
NOWHERE_RIGHT = [
    None, True, False, "", "0", "01", "01/00", " ", "a", [], [0], [0, 1], [[0, 1], [0, 0]], (),
    ((),), (None,), (True,), (False,), ("0",), ([0],), -1, -2, 9, 10 ** 40, -10 ** 40,
    nested(30, 0, tuple), nested(30, 0, list), nested(30, (), tuple), nested(30, "0", tuple),
    nested(30, True, tuple), nested(31, None, list),
]


def together(step):
    """All pairs of values that have the same number."""
    return {(a, b) for a in range(len(step)) for b in range(len(step)) if step[a] == step[b]}


def steps_of(values):
    """All steps of so many values: each way to put values together, told by least values."""
    found = set()
    for names in product(range(values), repeat=values):
        found.add(tuple(names.index(name) for name in names))
    return sorted(found)


def ladders_of(values, most_steps):
    """All ladders of so many values, with at most so many steps."""
    first, last = tuple(range(values)), (0,) * values
    steps = steps_of(values)
    found, growing = [], [(first,)]
    while growing:
        ladder = growing.pop()
        if ladder[-1] == last:
            found.append(ladder)
        elif len(ladder) < most_steps:
            growing += [ladder + (step,) for step in steps if together(ladder[-1]) < together(step)]
    return sorted(found)


LADDERS = [ladder for values in range(1, 6) for ladder in ladders_of(values, 4)]

ONE = ((0,),)
TWO = ((0, 1), (0, 0))
THREE = ((0, 1, 2), (0, 0, 2), (0, 0, 0))
FIVE = ((0, 1, 2, 3, 4), (0, 1, 0, 3, 4), (0, 1, 0, 3, 1), (0, 0, 0, 0, 0))

# The table of the document's own example of a text, whose second ladder puts 0 and 1 together.
EXAMPLE = ((TWO, THREE), ((0, 2), (1, 1)), (1, 0))
SMALLEST = ((ONE,), ((0,),), (0,))
WIDEST = (
    (FIVE, TWO, THREE),
    ((0, 0, 0), (4, 1, 2), (3, 0, 1), (2, 1, 2), (1, 0, 0), (4, 1, 2), (0, 1, 0), (2, 0, 1)),
    (3, 2, 1, 0, 0, 1, 2, 3),
)
TABLES = [
    EXAMPLE, SMALLEST, WIDEST,
    ((TWO,), ((1,), (0,), (1,)), (3, 3, 3)),
    ((ONE, ONE, ONE), ((0, 0, 0),) * 8, (0, 1, 2, 3, 0, 1, 2, 3)),
    ((FIVE, ONE), ((4, 0),), (2,)),
]


def places(thing):
    """The path of each part of a thing, the thing itself being one."""
    yield ()
    if isinstance(thing, tuple):
        for number, part in enumerate(thing):
            for path in places(part):
                yield (number,) + path


def part_at(thing, path):
    for number in path:
        thing = thing[number]
    return thing


def with_part(thing, path, part):
    if not path:
        return part
    changed = with_part(thing[path[0]], path[1:], part)
    return thing[:path[0]] + (changed,) + thing[path[0] + 1:]


def as_lists(thing):
    return [as_lists(part) for part in thing] if isinstance(thing, tuple) else thing


def spoiled(thing):
    """The thing with a part made wrong, for each of its parts, in many ways."""
    for path in places(thing):
        part = part_at(thing, path)
        wrong = list(NOWHERE_RIGHT)
        if isinstance(part, tuple):
            wrong += [list(part), as_lists(part), repr(part), (part,), part[:-1] + (None,)]
        else:
            wrong += [str(part), (part,), [part], bool(part)]
        for other in wrong:
            yield with_part(thing, path, other)


def stirred(seed):
    """Numbers without an order that is plain to see, the same ones each time."""
    state = seed
    while True:
        state = (state * 6364136223846793005 + 1442695040888963407) % 2 ** 64
        yield state >> 33


def made_table(seed, columns, rows):
    """A table with so many columns and rows, the same one each time."""
    numbers = stirred(seed * 1000 + columns * 100 + rows)
    ladders = tuple(LADDERS[next(numbers) % len(LADDERS)] for _ in range(columns))
    values = tuple(tuple(next(numbers) % len(ladder[0]) for ladder in ladders) for _ in range(rows))
    return (ladders, values, tuple(next(numbers) % 4 for _ in range(rows)))


def ways_of(table):
    return list(product(*(range(len(ladder)) for ladder in table[0])))


@lru_cache(maxsize=None)
def put_together(table, way, column, value):
    """All values of a column with which a value is put together by a way."""
    pairs = together(table[0][column][way[column]])
    return [other for other in range(len(table[0][column][0])) if (value, other) in pairs]


def rows_told(table, way):
    return tuple(
        tuple(min(put_together(table, way, column, value)) for column, value in enumerate(row))
        for row in table[1])


@lru_cache(maxsize=None)
def classes_told(table, way):
    rows = rows_told(table, way)
    found = {tuple(other for other in range(len(rows)) if rows[other] == row) for row in rows}
    return tuple(sorted(found))


@lru_cache(maxsize=None)
def loss_told(table, way):
    lost = 0
    for row in table[1]:
        for column, value in enumerate(row):
            lost += len(put_together(table, way, column, value)) - 1
    return lost


def first_way(table):
    return (0,) * len(table[0])


def last_way(table):
    return tuple(len(ladder) - 1 for ladder in table[0])


FOUR_ROWS = ((TWO, TWO), ((0, 0), (0, 1), (1, 0), (1, 1)), (0, 1, 2, 3))
ONE_ROW = ((THREE, TWO), ((1, 1),), (2,))
ALL_ALIKE = ((THREE, TWO), ((2, 1),) * 5, (0, 1, 0, 1, 2))
NO_TWO_ALIKE = ((FIVE,), ((4,), (2,), (0,), (1,), (3,)), (0, 0, 1, 1, 1))
ONE_VALUE = ((ONE, ONE), ((0, 0),) * 4, (3, 1, 3, 1))
MANY_ROWS = made_table(5, 2, 30)
MADE = [made_table(seed, columns, rows)
        for seed in range(4) for columns in (1, 2, 3) for rows in (1, 2, 3, 5, 8)]
# Tables for all functions that take tables of more than 8 rows, too.
SHOWN_TABLES = TABLES + [FOUR_ROWS, ONE_ROW, ALL_ALIKE, NO_TWO_ALIKE, ONE_VALUE, MANY_ROWS] + MADE + [
    made_table(seed, columns, rows) for seed in (7, 8) for columns in (1, 2, 3) for rows in (9, 12, 20)]


def pairs_of_coarser():
    """Each sample with each two ways, the first of which is coarser."""
    for table in SHOWN_TABLES:
        for other in ways_of(table):
            for one in ways_of(table):
                if one != other and all(mine >= its for mine, its in zip(one, other)):
                    yield table, one, other
