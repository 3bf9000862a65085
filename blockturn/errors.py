"""The refusals of the program."""


class BlockError(ValueError):
    pass


class NoBoard(BlockError):
    pass


class NoRule(BlockError):
    pass


class NotBack(BlockError):
    pass


class TooLong(BlockError):
    pass


class TooMany(BlockError):
    pass


class BadNote(BlockError):
    pass
