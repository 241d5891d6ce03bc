"""Words of notches: rising tuples of the places that are notched, counted from 0."""

from needledeck.errors import NoHoles, NoWord

MOST_HOLES = 60


def is_whole(thing):
    """Tell whether a thing is a whole number: an int that is no truth."""
    return isinstance(thing, int) and not isinstance(thing, bool)


def is_word(holes, thing):
    """Tell whether a thing is a word of so many holes."""
    if not isinstance(thing, tuple):
        return False
    least = 0
    for place in thing:
        if not is_whole(place) or place < least or place >= holes:
            return False
        least = place + 1
    return True


def check_holes(holes):
    """Refuse holes that are none with NoHoles."""
    # The refusals don't show what was handed in: it may be anything, also what can't be shown.
    if not is_whole(holes) or holes < 1 or holes > MOST_HOLES:
        raise NoHoles(f"holes are a whole number from 1 to {MOST_HOLES}")


def check_word(holes, word):
    """Refuse holes that are none with NoHoles, then what is no word of so many with NoWord."""
    check_holes(holes)
    if not is_word(holes, word):
        raise NoWord("a word is a tuple of rising places, each from 0 to one less than the holes")


def within(one, other):
    """Tell whether each place of the one is a place of the other."""
    return all([place in other for place in one])


def together(one, other):
    """Tell the word that has the places of either."""
    return tuple(sorted(set(one) | set(other)))


def beyond(one, other):
    """Tell the word that has the places of the one that the other has not."""
    return tuple([place for place in one if place not in other])


def all_words(holes):
    """Tell all words of so many holes, in the order of tuples."""
    words = [()]
    for place in range(holes):
        words = words + [word + (place,) for word in words]
    return sorted(words)
