"""The errors that the package raises by itself, in the order in which they go ahead of one another."""


def fresh(value):
    """An equal plain value in which each list is a new one."""
    if isinstance(value, list):
        return [fresh(item) for item in value]
    if isinstance(value, tuple):
        return tuple([fresh(item) for item in value])
    return value


class LevelError(ValueError):
    """The base class of all errors of the package."""


class BadNet(LevelError):
    """The arrows and the leaves give no net."""

    def __init__(self, word, at):
        self.word = word
        self.at = at


class BadText(LevelError):
    """The text is no text of a net."""

    def __init__(self, word, at):
        self.word = word
        self.at = at


class BadTree(LevelError):
    """The value is no tree, or the net has none."""

    def __init__(self, word):
        self.word = word


class BadName(LevelError):
    """The value is no name."""

    def __init__(self, bad):
        # What is no name may hold lists, and an error keeps no list that was passed.
        self.bad = fresh(bad)


class BadValue(LevelError):
    """The value is not one of those that may be passed."""

    def __init__(self, bad):
        self.bad = fresh(bad)


class NoLeaf(LevelError):
    """The string is not the name of a leaf."""

    def __init__(self, bad):
        self.bad = bad


class NoPlace(LevelError):
    """The integer is no place, or no inner place, of the net."""

    def __init__(self, bad):
        self.bad = bad


class NoArrow(LevelError):
    """The pair is no arrow of the net."""

    def __init__(self, bad):
        self.bad = bad


class NoPair(LevelError):
    """The pair cannot be plucked or put back."""

    def __init__(self, bad):
        self.bad = bad


class BadRow(LevelError):
    """The row cannot be followed."""

    def __init__(self, at):
        self.at = at


class BadMoments(LevelError):
    """The value is not moments that fit the net."""

    def __init__(self, word, at):
        self.word = word
        self.at = at


class BadPaper(LevelError):
    """The paper is not of the kind that the word tells."""

    def __init__(self, word):
        self.word = word


class Unlike(LevelError):
    """The names are not the same."""

    def __init__(self, bad):
        self.bad = bad


class NoRow(LevelError):
    """The net cannot be plucked down."""

    def __init__(self, knot):
        self.knot = fresh(knot)


class BadEdit(LevelError):
    """The edit cannot be done."""

    def __init__(self, word):
        self.word = word


class TooMany(LevelError):
    """There are more things than the bound allows."""

    def __init__(self, word, many):
        self.word = word
        self.many = many
