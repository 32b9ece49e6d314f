"""The text of a table."""


def run_together(numbers):
    return "".join([str(number) for number in numbers])


def ladder_text(ladder):
    return "/".join([run_together(step) for step in ladder])


def row_text(row, secret):
    return run_together(row) + ":" + str(secret)


def written(table):
    ladder_words = [ladder_text(ladder) for ladder in table[0]]
    row_words = [row_text(row, secret) for row, secret in zip(table[1], table[2])]
    return " ".join(ladder_words + [";"] + row_words)
