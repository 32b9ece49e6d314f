"""The refusals of the program."""


class TableError(ValueError):
    pass


class NoText(TableError):
    pass
