"""What several test files use."""

import copy
import itertools


class Unfriendly:
    """A thing that lets nothing be done with it."""

    def refuse(self, *others):
        raise RuntimeError("left alone")

    __eq__ = __lt__ = __gt__ = __le__ = __ge__ = __len__ = __iter__ = refuse
    __bool__ = __int__ = __index__ = __repr__ = __str__ = refuse
    __hash__ = None


def words(holes):
    """All words of so many holes, the ones with fewer places ahead."""
    return [word for many in range(holes + 1) for word in itertools.combinations(range(holes), many)]


def lists_in(thing):
    """Each list that a thing is or holds, also within tuples and lists, as often as it stands there."""
    found = [thing] if isinstance(thing, list) else []
    if isinstance(thing, (list, tuple)):
        for part in thing:
            found += lists_in(part)
    return found


class OwnLists:
    """For a TestCase: what is handed in stays as it was, and what is told is the asker's own."""

    def assert_own(self, ask, *handed):
        before = copy.deepcopy(handed)
        told = ask(*handed)
        self.assertEqual(handed, before)
        saved = copy.deepcopy(told)
        own = {id(one) for one in lists_in(told)}
        self.assertEqual(len(own), len(lists_in(told)))
        self.assertTrue(own.isdisjoint({id(one) for one in lists_in(handed)}))
        for one in lists_in(told):
            one.append("spoilt")
            one.reverse()
        self.assertEqual(handed, before)
        again = ask(*handed)
        self.assertEqual(again, saved)
        for one in lists_in(ask(*handed)):
            one.clear()
        self.assertEqual(again, saved)
        for one in lists_in(handed):
            one.clear()
        self.assertEqual(again, saved)
