"""All errors of the package.

The constructors set the attributes and nothing else: Python itself makes the
message of an error from what its constructor is passed.
"""


class PooledError(ValueError):
    """Something that is passed is wrong, or there is too much of it."""


class InvalidName(PooledError):
    """A value that should be a name is none."""

    def __init__(self, value):
        self.value = value


class InvalidNumber(PooledError):
    """A number is out of its bounds, or a value that should be one is none."""

    def __init__(self, value):
        self.value = value


class InvalidText(PooledError):
    """A text stops being right at this place; -1 for a value that is no string."""

    def __init__(self, at):
        self.at = at


class InvalidCircle(PooledError):
    """The value with this index is no circle."""

    def __init__(self, at):
        self.at = at


class InvalidTie(PooledError):
    """The item with this index is no tie; -1 for a value that is no row of ties."""

    def __init__(self, at):
        self.at = at


class InvalidParting(PooledError):
    """A value that should be a parting is none that fits."""

    def __init__(self, value):
        self.value = value


class InvalidCase(PooledError):
    """A value that should be a case is none."""

    def __init__(self, value):
        self.value = value


class InvalidGrant(PooledError):
    """The value with this index is no grant."""

    def __init__(self, at):
        self.at = at


class InvalidBan(PooledError):
    """The value with this index is no ban."""

    def __init__(self, at):
        self.at = at


class InvalidShare(PooledError):
    """The value with this index is no share."""

    def __init__(self, at):
        self.at = at


class InvalidSaying(PooledError):
    """The value with this index is no saying on the cases of the sketch."""

    def __init__(self, at):
        self.at = at


class InvalidLog(PooledError):
    """The entry with this index is not right; -1 for a value that is no row of entries."""

    def __init__(self, at):
        self.at = at


class InvalidLot(PooledError):
    """The item with this index cannot stand in a lot; -1 for a value that is no tuple."""

    def __init__(self, at):
        self.at = at


class InvalidEyes(PooledError):
    """A value that should be a row of different names is none."""


class InvalidDeed(PooledError):
    """The value with this index is no deed."""

    def __init__(self, at):
        self.at = at


class InvalidQuestion(PooledError):
    """A value that should be a question is none."""


class TooMany(PooledError):
    """There are more of these than there may be at most."""

    def __init__(self, what, most):
        self.what = what
        self.most = most


class NotAlike(PooledError):
    """Two spots are not alike to the circle that should be laid between them."""

    def __init__(self, one, other):
        self.one = one
        self.other = other


class CommonShown(PooledError):
    """The grant with this index would have to show what a common sees."""

    def __init__(self, at):
        self.at = at


class NotPooled(PooledError):
    """A plan that should be pooled is not."""


class UnlikeSketches(PooledError):
    """Two sketches have unlike numbers of cases or unlike books."""


class NotSafe(PooledError):
    """The ban with this index is broken."""

    def __init__(self, at):
        self.at = at


class CannotStand(PooledError):
    """The saying with this index is broken, so the sketch does not stand."""

    def __init__(self, at):
        self.at = at


class NameTaken(PooledError):
    """A thing has this name already."""

    def __init__(self, name):
        self.name = name


class InUse(PooledError):
    """A sketch hangs on the guard with this name."""

    def __init__(self, name):
        self.name = name


class Missing(LookupError):
    """Something that is asked for is not there."""


class UnknownName(Missing):
    """No thing of the kind that is asked has this name."""

    def __init__(self, name):
        self.name = name


class UnknownEye(Missing):
    """The stretch has no eye with this name."""

    def __init__(self, name):
        self.name = name


class UnknownGrant(Missing):
    """The book has no grant with this index."""

    def __init__(self, at):
        self.at = at


class UnknownBan(Missing):
    """The guard has no ban with this index."""

    def __init__(self, at):
        self.at = at


class UnknownShare(Missing):
    """The plan has no share with this index."""

    def __init__(self, at):
        self.at = at


class UnknownSaying(Missing):
    """The sketch has no saying with this index."""

    def __init__(self, at):
        self.at = at


class NothingLeft(IndexError):
    """There is no step left to take back or to do again."""
