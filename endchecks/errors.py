"""The errors of the package. Each keeps what it was made of under the names of its signature."""


class CheckError(ValueError):
    """The base of all errors of the package."""


class Wrong(CheckError):
    """The argument at this place is not as described."""

    def __init__(self, place):
        self.place = place


class TooMany(CheckError):
    """There are more than this limit."""

    def __init__(self, limit):
        self.limit = limit


class Full(CheckError):
    """There is no room: so many are there already, or would be passed."""

    def __init__(self, limit):
        self.limit = limit


class BadRule(CheckError):
    """The item with this index is no rule, or has the name of an earlier one."""

    def __init__(self, at):
        self.at = at


class BadRow(CheckError):
    """What was to be put with this id is no row of its table."""

    def __init__(self, ident):
        self.ident = ident


class NoRow(CheckError):
    """There is no row with this id."""

    def __init__(self, ident):
        self.ident = ident


class Taken(CheckError):
    """Another row has this id."""

    def __init__(self, ident):
        self.ident = ident


class BadStatement(CheckError):
    """What stands at this address is no statement, or none that may stand there."""

    def __init__(self, address):
        self.address = address


class Twice(CheckError):
    """Two statements put the new row of this handle."""

    def __init__(self, handle):
        self.handle = handle


class Unput(CheckError):
    """This handle is named, and no statement puts its row."""

    def __init__(self, handle):
        self.handle = handle


class Unfit(CheckError):
    """Two scripts cannot be compared."""

    def __init__(self):
        pass


class NoPlace(CheckError):
    """This address is no place in the script."""

    def __init__(self, address):
        self.address = address


class Broken(CheckError):
    """The rule of this name does not hold where it is checked."""

    def __init__(self, rule):
        self.rule = rule


class Illegal(CheckError):
    """The rule of this name does not hold at the beginning."""

    def __init__(self, rule):
        self.rule = rule


class NoDeed(CheckError):
    """What was to be done is no deed."""

    def __init__(self):
        pass


class Nothing(CheckError):
    """There is nothing that could be taken back, done again or told."""

    def __init__(self):
        pass


class NoText(CheckError):
    """What was to be read is no such text."""

    def __init__(self):
        pass


class NoCommand(CheckError):
    """What was to be executed is no command."""

    def __init__(self):
        pass
