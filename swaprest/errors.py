"""The refusals of the program, each with the field that tells what was refused."""


class SwapError(ValueError):
    """Any refusal."""


class NoNumber(SwapError):
    """A number that there isn't: something divided by nought."""


class NoCount(SwapError):
    """What stands for a count is none that may stand there."""


class TooLong(SwapError):
    """Words would have more than five ways or letters."""


class NoTree(SwapError):
    """What stands for a tree of letters is none."""


class NoWord(SwapError):
    """What stands for a word of letters is none."""


class NoLeast(SwapError):
    """A word that isn't least, or a length that least words don't have here."""


class NotNought(SwapError):
    """The word () is in a sum that must do without it."""


class NotOne(SwapError):
    """The number of the word () isn't 1."""


class TooDeep(SwapError):
    """A table that isn't thin, or is too deep."""


class NoLine(SwapError):
    """A line that a bench can't read."""


class NoMatch(SwapError):
    """Two sums that belong to two names."""


class NoDeed(SwapError):
    """There is no deed to take back."""


class NoRow(SwapError):
    """What stands for a row is none; place: which of them, None where it stands by itself."""

    def __init__(self, place):
        self.place = place


class NoSquare(SwapError):
    """What stands for a square is none; place: which of them, None where it stands by itself."""

    def __init__(self, place):
        self.place = place


class NoPair(SwapError):
    """A leaving of what aren't two ways, or of two that have one; place: its place in the list."""

    def __init__(self, place):
        self.place = place


class NotFree(SwapError):
    """Things that aren't free; place: the first that is a sum of those ahead."""

    def __init__(self, place):
        self.place = place


class NoSum(SwapError):
    """What stands for a sum is none; place: the first place at which it isn't."""

    def __init__(self, place):
        self.place = place


class NotBare(SwapError):
    """A table that isn't bare; pair: the first two ways that leave a number alone."""

    def __init__(self, pair):
        self.pair = pair


class NoShelf(SwapError):
    """What stands for a shelf is none; pair: the first two eaten ways that say so."""

    def __init__(self, pair):
        self.pair = pair


class NotActing(SwapError):
    """Squares that don't act as the table asks; pair: the first two ways that say so."""

    def __init__(self, pair):
        self.pair = pair


class NotKept(SwapError):
    """A room that isn't kept; pair: the first way, and the place of the row that it moves out."""

    def __init__(self, pair):
        self.pair = pair


class Broken(SwapError):
    """A table that breaks the rule; at: the first three ways that break it."""

    def __init__(self, at):
        self.at = at


class NotGap(SwapError):
    """A gap that breaks the rule when laid under; at: the first three ways that break it."""

    def __init__(self, at):
        self.at = at


class NoText(SwapError):
    """A text that can't be read; at: the number of its first wrong word."""

    def __init__(self, at):
        self.at = at


class NoPlace(SwapError):
    """A step that can't be done; step: its number."""

    def __init__(self, step):
        self.step = step


class NotEaten(SwapError):
    """A row that isn't moved as a shelf asks; way: the first eaten way that moves it otherwise."""

    def __init__(self, way):
        self.way = way


class NoName(SwapError):
    """A word that is no name or sign, or by which nothing stands; name: the word."""

    def __init__(self, name):
        self.name = name
