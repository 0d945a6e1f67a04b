"""Circle texts without the package: all short ones, and where a wrong one goes wrong."""

from tests.plain import plain_built


def all_texts(most, names):
    """A dict from all circle texts of at most so many characters, with these names, to their plain circles."""
    items = {length: {} for length in range(-2, most + 1)}
    rows = {sign: {length: {} for length in range(-2, most + 1)} for sign in "&|"}
    texts = {length: {} for length in range(-2, most + 1)}
    for length in range(1, most + 1):
        items[length].update({name: name for name in names if len(name) == length})
        items[length].update({"(" + text + ")": circle for text, circle in texts[length - 2].items()})
        for sign in "&|":
            rows[sign][length] = longer_rows(sign, length, items, rows[sign])
        texts[length] = {**items[length], **rows["&"][length], **rows["|"][length]}
        texts[length] = {text: as_circle(circle) for text, circle in texts[length].items()}
    return {text: circle for length in texts for text, circle in texts[length].items()}


def longer_rows(sign, length, items, rows):
    """The rows of two items or more, of one length, as a dict from texts to lists of plain circles."""
    found = {}
    for first in range(1, length - 3):
        for text, circle in items[first].items():
            for rest, last in items[length - 3 - first].items():
                found[f"{text} {sign} {rest}"] = (sign, [circle, last])
            for rest, (_, others) in rows[length - 3 - first].items():
                found[f"{text} {sign} {rest}"] = (sign, [circle] + others)
    return found


def as_circle(row):
    """The plain circle of a row of items."""
    return row if isinstance(row, str) else plain_built(row[0], row[1])


def right_to(text):
    """The length of the longest beginning of a text with which some circle text begins.

    It goes from character to character and keeps what may come next.
    """
    signs = [""]
    wanted = "item"
    letters = 0
    for at, character in enumerate(text):
        if character in "abcdefghijklmnopqrstuvwxyz":
            if not (wanted == "item" or wanted == "letter" and letters < 6):
                return at
            letters = letters + 1 if wanted == "letter" else 1
            wanted = "letter"
        elif character == "(":
            if wanted != "item" or len(signs) > 20:
                return at
            signs.append("")
        elif character == ")":
            if wanted not in ("letter", "behind") or len(signs) == 1:
                return at
            signs.pop()
            wanted = "behind"
        elif character == " ":
            if wanted not in ("letter", "behind", "space"):
                return at
            wanted = "item" if wanted == "space" else "sign"
        elif character in "&|":
            if wanted != "sign" or signs[-1] not in ("", character):
                return at
            signs[-1] = character
            wanted = "space"
        else:
            return at
    return len(text)
