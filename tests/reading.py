"""Things of the package from short texts: "a & b > c, b > a" is a book."""

from pooledeyes.books import Book
from pooledeyes.circletexts import read_circle
from pooledeyes.guards import Guard
from pooledeyes.plans import Plan
from pooledeyes.sketches import Sketch


def split_text(text):
    """The list of the pieces of a text between commas."""
    return [piece for piece in text.split(", ") if piece]


def book_of(text):
    """The book with these grants."""
    return Book.read("".join(piece + "\n" for piece in split_text(text)))


def guard_of(text, bans):
    """The guard with these grants and bans; "a ! b & c" is a ban."""
    return Guard(book_of(text), *bans_of(bans))


def bans_of(text):
    """The list of these bans."""
    return [tuple(read_circle(side) for side in piece.split(" ! ")) for piece in split_text(text)]


def plan_of(text):
    """The plan with these shares; "a learns b | c" and "a swaps b" are shares."""
    return Plan(*shares_of(text))


def shares_of(text):
    """The list of these shares."""
    return [share_of(*piece.split(" ", 2)) for piece in split_text(text)]


def share_of(name, word, last):
    """The share of a name, a word and what stands behind."""
    return (word, name, last if word == "swaps" else read_circle(last))


def sketch_of(many, text, book=""):
    """The sketch with these sayings; "1 2 alike a | b" is a saying."""
    return Sketch(many, *sayings_of(text), under=book_of(book))


def sayings_of(text):
    """The list of these sayings."""
    return [saying_of(*piece.split(" ", 3)) for piece in split_text(text)]


def saying_of(one, other, word, circle):
    """The saying of two cases, a word and a circle."""
    return (word, read_circle(circle), int(one), int(other))
