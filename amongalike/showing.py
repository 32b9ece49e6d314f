"""How a table is shown by a way: its rows, its classes, and what is lost."""


def shown_row(steps, row):
    return tuple([step[value] for step, value in zip(steps, row)])


def steps_by(table, way):
    return [ladder[number] for ladder, number in zip(table[0], way)]


def shown(table, way):
    steps = steps_by(table, way)
    return tuple([shown_row(steps, row) for row in table[1]])


def classes(table, way):
    alike = {}
    for number, row in enumerate(shown(table, way)):
        alike.setdefault(row, []).append(number)
    # A dict keeps its keys in the order of their first rows, so the classes rise.
    return tuple([tuple(numbers) for numbers in alike.values()])


def fewest_alike(table, way):
    return min([len(members) for members in classes(table, way)], default=0)


def all_ways(table):
    ways = [()]
    for ladder in table[0]:
        longer = []
        for way in ways:
            longer.extend([way + (number,) for number in range(len(ladder))])
        ways = longer
    return tuple(ways)


def is_safe(table, way, many):
    return all([len(members) >= many for members in classes(table, way)])


def unlike_secrets(table, members):
    return len(set([table[2][number] for number in members]))


def is_mixed(table, way, many):
    return all([unlike_secrets(table, members) >= many for members in classes(table, way)])


def is_coarser(one, other):
    pairs = list(zip(one, other))
    return all([first >= second for first, second in pairs]) and any([first > second for first, second in pairs])


def row_loss(steps, row):
    return sum([step.count(step[value]) - 1 for step, value in zip(steps, row)])


def loss(table, way):
    steps = steps_by(table, way)
    return sum([row_loss(steps, row) for row in table[1]])
