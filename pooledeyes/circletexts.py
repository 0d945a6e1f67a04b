"""Circle texts: reading and judging them.

A text is first read into a tree, as a wrong text is refused ahead of any circle
that is too great. A tree is a name, or a tuple of a sign and a list of trees.
"""

from pooledeyes.circles import built, eye
from pooledeyes.errors import InvalidText, TooMany
from pooledeyes.words import MOST_LETTERS, is_name

KINDS = {"&": "pool", "|": "common"}
MOST_OPEN = 20


def read_circle(text):
    """The circle with a circle text."""
    return grown(read_tree(text))


def is_circle_text(value):
    """Whether any value is the text of some circle, just as str writes it."""
    try:
        circle = read_circle(value)
    except (InvalidText, TooMany):
        return False
    return str(circle) == value


def read_tree(text):
    """The tree of a circle text, also of one whose circle is too great."""
    if not isinstance(text, str):
        raise InvalidText(-1)
    tree, end = read_row(text, 0, 0)
    if end < len(text):
        raise InvalidText(end)
    return tree


def read_row(text, start, opened):
    """The tree of the items from start on, within so many open parentheses, and its end."""
    tree, at = read_item(text, start, opened)
    if text[at:at + 1] != " ":
        return tree, at
    sign = read_sign(text, at + 1)
    trees = [tree]
    while text[at:at + 1] == " ":
        check_sign(text, at + 1, sign)
        tree, at = read_item(text, at + 3, opened)
        trees.append(tree)
    return (sign, trees), at


def read_item(text, start, opened):
    """The tree of the item that begins at start, and its end."""
    if text[start:start + 1] == "(" and opened < MOST_OPEN:
        tree, at = read_row(text, start + 1, opened + 1)
        if text[at:at + 1] != ")":
            raise InvalidText(at)
        return tree, at + 1
    name = name_at(text, start)
    if name == "":
        raise InvalidText(start)
    return name, start + len(name)


def name_at(text, start):
    """The longest name that begins at start, the empty string if none does."""
    for many in range(MOST_LETTERS, 0, -1):
        if is_name(text[start:start + many]):
            return text[start:start + many]
    return ""


def read_sign(text, at):
    """The sign that stands at a place."""
    if text[at:at + 1] not in ("&", "|"):
        raise InvalidText(at)
    return text[at]


def check_sign(text, at, sign):
    """Refuse a text in which a sign and a space do not stand at a place."""
    if text[at:at + 1] != sign:
        raise InvalidText(at)
    if text[at + 1:at + 2] != " ":
        raise InvalidText(at + 1)


def grown(tree):
    """The circle of a tree."""
    if isinstance(tree, str):
        return eye(tree)
    sign, trees = tree
    return built(KINDS[sign], [grown(inner) for inner in trees])
