"""What is left of grants and bans behind plans."""

from pooledeyes.books import Book
from pooledeyes.errors import CommonShown
from pooledeyes.frames import ROUNDS, check_frame
from pooledeyes.musts import grants_for, must_tell


def unkept_behind(plan, book):
    """The index of the first grant that is not surely kept behind a plan under a book, None if all are."""
    pairs = [(plan.pulled(circle), plan.image(name)) for circle, name in book.grants()]
    # Also where a grant ahead is not kept, all frames are wanted.
    for circle, _ in pairs:
        check_frame(circle, ROUNDS, 0)
    for at, (circle, shown) in enumerate(pairs):
        if not must_tell(book, circle, shown):
            return at
    return None


def broken_behind(plan, guard):
    """The ascending list of the indexes of the bans of a guard that are broken behind a plan under its book."""
    pairs = [(plan.pulled(circle), plan.pulled(told)) for circle, told in guard.bans()]
    return [at for at, (circle, told) in enumerate(pairs) if must_tell(guard.book, circle, told)]


def book_ahead(plan, book):
    """The book ahead of a plan and a book, each grant where it comes first."""
    images = [plan.image(name) for _, name in book.grants()]
    for at, image in enumerate(images):
        if not can_be_shown(image):
            raise CommonShown(at)
    circles = [plan.pulled(circle) for circle, _ in book.grants()]
    found = []
    for circle, image in zip(circles, images):
        found.extend([grant for grant in grants_for(circle, image) if grant not in found])
    return Book(*found)


def can_be_shown(image):
    """Whether grants can show what an image sees."""
    return image.depth == 0 or (image.depth == 1 and image.kind == "pool")
