"""What ladders, tables and ways are: whether any thing is one."""

MOST_VALUES = 5
MOST_STEPS = 4
MOST_COLUMNS = 3
MOST_ROWS = 8
SECRETS = 4


def is_number_below(thing, bound):
    # Python counts truths among the ints; here they are no whole numbers.
    if isinstance(thing, bool) or not isinstance(thing, int):
        return False
    return 0 <= thing < bound


def is_tuple_up_to(thing, most):
    return isinstance(thing, tuple) and 1 <= len(thing) <= most


def has_numbers_below(thing, bounds):
    if not isinstance(thing, tuple) or len(thing) != len(bounds):
        return False
    return all([is_number_below(number, bound) for number, bound in zip(thing, bounds)])


def is_step(thing):
    if not is_tuple_up_to(thing, MOST_VALUES):
        return False
    for value, number in enumerate(thing):
        # A value is put together with itself, so the least one is never above it.
        if not is_number_below(number, value + 1):
            return False
        # The least one is itself among those put together, so it has its own number.
        if thing[number] != number:
            return False
    return True


def puts_none_together(step):
    return all([number == value for value, number in enumerate(step)])


def puts_all_together(step):
    return all([number == 0 for number in step])


def puts_more_together(step, before):
    if len(step) != len(before) or step == before:
        return False
    # Each value only needs to stay with its least one: so all that were together stay together.
    return all([step[value] == step[number] for value, number in enumerate(before)])


def is_ladder(thing):
    if not is_tuple_up_to(thing, MOST_STEPS):
        return False
    if not all([is_step(step) for step in thing]):
        return False
    if not puts_none_together(thing[0]) or not puts_all_together(thing[-1]):
        return False
    return all([puts_more_together(step, before) for before, step in zip(thing, thing[1:])])


def are_ladders(thing):
    return is_tuple_up_to(thing, MOST_COLUMNS) and all([is_ladder(ladder) for ladder in thing])


def are_rows(ladders, thing):
    if not is_tuple_up_to(thing, MOST_ROWS):
        return False
    values = [len(ladder[0]) for ladder in ladders]
    return all([has_numbers_below(row, values) for row in thing])


def is_table(thing):
    if not isinstance(thing, tuple) or len(thing) != 3:
        return False
    ladders = thing[0]
    rows = thing[1]
    if not are_ladders(ladders) or not are_rows(ladders, rows):
        return False
    return has_numbers_below(thing[2], [SECRETS for row in rows])


def is_way(table, thing):
    return has_numbers_below(thing, [len(ladder) for ladder in table[0]])
