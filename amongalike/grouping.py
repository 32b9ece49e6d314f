"""Rows put into groups, each coarse by itself, so that least is lost.

The rows of a group are of one class by the group's way, and each of them loses equally much by it. So for the best
grouping it is enough to choose for each row a class that it joins, of any way, so that no class is joined by too few
rows. What is joined by twice as many rows, or more, is cut into smaller groups, by which no more is lost.
"""

from amongalike.showing import all_ways, classes, row_loss, steps_by


def least_number(ladder, values):
    number = 0
    while len(set([ladder[number][value] for value in values])) > 1:
        number += 1
    return number


def group_way(table, group):
    rows = [table[1][number] for number in group]
    return tuple([least_number(ladder, [row[column] for row in rows]) for column, ladder in enumerate(table[0])])


def group_loss(table, group):
    steps = steps_by(table, group_way(table, group))
    return sum([row_loss(steps, table[1][number]) for number in group])


def losses_of_classes(table, many):
    losses = {}
    for way in all_ways(table):
        for members in classes(table, way):
            if len(members) >= many and members not in losses:
                losses[members] = group_loss(table, members) // len(members)
    return losses


class Search:
    def __init__(self, table, many):
        self.many = many
        # What each row of a class loses, for all classes that many rows can join.
        self.losses = losses_of_classes(table, many)
        rows = list(range(len(table[1])))
        self.least = [self.least_of(row) for row in rows]
        # Rows that lose most have the fewest choices; rows with equal values stand side by side.
        self.order = sorted(rows, key=lambda row: (-self.least[row], table[1][row]))

    def joinable(self, row):
        return [members for members in self.losses if row in members]

    def least_of(self, row):
        return min([self.losses[members] for members in self.joinable(row)])

    def above_least(self, members, row):
        return self.losses[members] - self.least[row]


class Choice:
    def __init__(self, chosen, joined, extra):
        # A class for each of the first rows, in the order of the search.
        self.chosen = chosen
        # Pairs of a class and how many rows join it; above many it makes no difference how many.
        self.joined = joined
        # What these rows lose above their least.
        self.extra = extra


def joined_once_more(joined, members, many):
    after = dict(joined)
    after[members] = min(after.get(members, 0) + 1, many)
    return tuple(sorted(after.items()))


def with_one_more(search, choice, members):
    row = search.order[len(choice.chosen)]
    joined = joined_once_more(choice.joined, members, search.many)
    return Choice(choice.chosen + (members,), joined, choice.extra + search.above_least(members, row))


def longer_choices(search, choice):
    row = search.order[len(choice.chosen)]
    return [with_one_more(search, choice, members) for members in search.joinable(row)]


def least_extra(search, choice):
    # Rows still to come must fill up each joined class; None where they are too few for it.
    coming = search.order[len(choice.chosen):]
    extra = choice.extra
    for members, number in choice.joined:
        missing = search.many - number
        extras = sorted([search.above_least(members, row) for row in coming if row in members])
        if len(extras) < missing:
            return None
        extra += sum(extras[:missing])
    return extra


def put_in(search, waiting, choices):
    for choice in choices:
        extra = least_extra(search, choice)
        if extra is not None:
            waiting.setdefault(extra, []).append(choice)


def best_choice(search):
    waiting = {0: [Choice((), (), 0)]}
    seen = {}
    extra = 0
    # Those that can lose least go first, so the first one with a class for each row loses least of all.
    while True:
        if not waiting.get(extra):
            extra += 1
            continue
        choice = waiting[extra].pop()
        if len(choice.chosen) == len(search.order):
            return choice
        standing = (len(choice.chosen), choice.joined)
        # Whoever comes to the same standing later has lost no less.
        if standing not in seen:
            seen[standing] = True
            put_in(search, waiting, longer_choices(search, choice))


def cut(rows, many):
    groups = []
    while len(rows) >= 2 * many:
        groups.append(tuple(rows[:many]))
        rows = rows[many:]
    return groups + [tuple(rows)]


def best_grouping(table, many):
    # No group is without a row, even where many is below 1.
    fewest = max(many, 1)
    if len(table[1]) < fewest:
        return None
    search = Search(table, fewest)
    chosen = best_choice(search).chosen
    grouping = []
    for members in sorted(set(chosen)):
        rows = sorted([row for row, its in zip(search.order, chosen) if its == members])
        grouping.extend(cut(rows, fewest))
    return (sum([group_loss(table, group) for group in grouping]), tuple(sorted(grouping)))
