"""The store: rows told and taken back, levels, marks, and deeds undone and done again.

All that stands at a moment is one tuple (rows, marks, levels), made of tuples throughout: it can't be changed, so what
was marked, entered, undone or copied stays as it was without being copied itself.
"""

from scopestore.errors import Full, NoLevel, NoMark, NoName, NoRow, NothingDone, Stands
from scopestore.follows import follows_of
from scopestore.rows import fits_row, unknowns_of
from scopestore.spans import fixed_of, span_of
from scopestore.sums import fits_unknown
from scopestore.verdicts import verdict_of

MOST_ROWS = 8
MOST_UNKNOWNS = 4


def fits_name(thing):
    """Tell whether anything is a name or a word."""
    return fits_unknown(thing)


def kept_row(row):
    """Tell a row as the store keeps it, the sum a tuple of pairs."""
    one, sort, bound = row
    return (tuple(one.items()), sort, bound)


def told_row(kept):
    """Tell a row that the store keeps, the sum a new dict."""
    pairs, sort, bound = kept
    return (dict(pairs), sort, bound)


def found(pairs, thing):
    """Tell what the pairs have by anything as their key, None where they don't have it."""
    # Looked for by comparing, for what can't be a key of a dict may be asked for.
    for key, kept in pairs:
        if key == thing:
            return kept
    return None


def without(pairs, thing):
    """Tell the pairs but the one that has the thing as its key."""
    return tuple([pair for pair in pairs if pair[0] != thing])


def is_too_much(rows):
    """Tell whether these are more rows, or have more unknowns, than a store keeps."""
    return len(rows) > MOST_ROWS or len(unknowns_of(dict(rows))) > MOST_UNKNOWNS


class Store:
    """Rows by names, marks by words, and levels."""

    def __init__(self):
        self.now = ((), (), ())
        self.done = []
        self.undone = []

    def stand(self, rows, marks, levels):
        """Let all stand so behind a deed, which can be undone."""
        self.done.append(self.now)
        self.undone = []
        self.now = (rows, marks, levels)

    def tell(self, name, row):
        """Let the row stand under the name, behind all others."""
        rows, marks, levels = self.now
        if not fits_name(name):
            raise NoName("this is no name")
        if not fits_row(row):
            raise NoRow("this is no row")
        if found(rows, name) is not None:
            raise Stands("a row stands under the name")
        if is_too_much(self.rows() + [(name, row)]):
            raise Full("the store keeps no more rows, or no more unknowns")
        self.stand(rows + ((name, kept_row(row)),), marks, levels)

    def take(self, name):
        """Let the row of that name stand no longer."""
        rows, marks, levels = self.now
        if found(rows, name) is None:
            raise NoName("no row stands under the name")
        self.stand(without(rows, name), marks, levels)

    def enter(self):
        """Enter one level more."""
        rows, marks, levels = self.now
        self.stand(rows, marks, levels + ((rows, marks),))

    def leave(self):
        """Leave the level that was entered last: rows and marks stand as they stood then."""
        levels = self.now[2]
        if not levels:
            raise NoLevel("no level is entered")
        rows, marks = levels[-1]
        self.stand(rows, marks, levels[:-1])

    def mark(self, word):
        """Mark the rows that stand by the word."""
        rows, marks, levels = self.now
        if not fits_name(word):
            raise NoName("this is no word")
        self.stand(rows, without(marks, word) + ((word, rows),), levels)

    def back(self, word):
        """Let the rows stand as the word marks them."""
        marks, levels = self.now[1:]
        rows = found(marks, word)
        if rows is None:
            raise NoMark("nothing is marked by the word")
        self.stand(rows, marks, levels)

    def undo(self):
        """Let all stand as ahead of the last deed that isn't undone."""
        if not self.done:
            raise NothingDone("there is no deed to undo")
        self.undone.append(self.now)
        self.now = self.done.pop()

    def again(self):
        """Let all stand as behind the deed that was undone last."""
        if not self.undone:
            raise NothingDone("there is no deed to do again")
        self.done.append(self.now)
        self.now = self.undone.pop()

    def names(self):
        """Tell the names of the rows that stand, in their order."""
        return [name for name, kept in self.now[0]]

    def row(self, name):
        """Tell the row of that name."""
        kept = found(self.now[0], name)
        if kept is None:
            raise NoName("no row stands under the name")
        return told_row(kept)

    def rows(self):
        """Tell the pairs (name, row) of the rows that stand, in their order."""
        return [(name, told_row(kept)) for name, kept in self.now[0]]

    def level(self):
        """Tell how many levels are entered and not left."""
        return len(self.now[2])

    def marks(self):
        """Tell the words that mark something, sorted."""
        return sorted([word for word, rows in self.now[1]])

    def verdict(self):
        """Tell what verdict_of tells of the rows that stand."""
        return verdict_of(self.rows())

    def span(self, one):
        """Tell what span_of tells of the rows that stand."""
        return span_of(self.rows(), one)

    def fixed(self, one):
        """Tell what fixed_of tells of the rows that stand."""
        return fixed_of(self.rows(), one)

    def follows(self, row):
        """Tell what follows_of tells of the rows that stand."""
        return follows_of(self.rows(), row)

    def copy(self):
        """Tell a new store in which all stands as in this one."""
        other = Store()
        other.now = self.now
        other.done = list(self.done)
        other.undone = list(self.undone)
        return other
