"""The desk: it keeps stores by words, one of them in use, and is told lines, which it answers by texts."""

from scopestore.errors import NoLine, NoWord
from scopestore.store import Store, fits_name
from scopestore.texts import fraction_text, point_text, read_row, read_sum, row_text, shares_text

BARE_LINES = ("enter", "leave", "undo", "again", "names", "marks", "level", "verdict", "stores")
NAME_LINES = ("take", "mark", "back", "show", "copy", "use")
SUM_LINES = ("least", "greatest", "fixed")


def is_line(words):
    """Tell whether the words make one of the lines, whatever their ROW or SUM may be."""
    # Two blanks side by side and a blank at an end leave a word without signs.
    if "" in words:
        return False
    first, many = words[0], len(words)
    if first in BARE_LINES:
        return many == 1
    if first in NAME_LINES:
        return many == 2 and fits_name(words[1])
    if first in SUM_LINES:
        return many >= 2
    if first == "follows":
        return many >= 4
    return first == "tell" and many >= 5 and fits_name(words[1])


def words_text(words):
    """Tell the words parted by blanks."""
    return " ".join(words) if words else "none"


def end_text(end):
    """Tell how an end of a span is answered."""
    return "without" if end[0] == "without" else f"{end[0]} {fraction_text(end[1])}"


def do_tell(store, words):
    """Tell the store a row."""
    store.tell(words[1], read_row(" ".join(words[2:])))


def do_take(store, words):
    """Take a row back."""
    store.take(words[1])


def do_enter(store, words):
    """Enter a level."""
    store.enter()


def do_leave(store, words):
    """Leave a level."""
    store.leave()


def do_mark(store, words):
    """Mark the rows by a word."""
    store.mark(words[1])


def do_back(store, words):
    """Go back to what a word marks."""
    store.back(words[1])


def do_undo(store, words):
    """Undo a deed."""
    store.undo()


def do_again(store, words):
    """Do a deed again."""
    store.again()


def answer_names(store, words):
    """Answer the names of the rows that stand."""
    return words_text(store.names())


def answer_marks(store, words):
    """Answer the words that mark something."""
    return words_text(store.marks())


def answer_level(store, words):
    """Answer how many levels are entered."""
    return str(store.level())


def answer_show(store, words):
    """Answer the row of a name."""
    return row_text(store.row(words[1]))


def answer_verdict(store, words):
    """Answer the point or the shares of the clash."""
    told = store.verdict()
    if told[0] == "point":
        return f"point {point_text(told[1])}"
    return f"clash {shares_text(told[1])}"


def answer_least(store, words):
    """Answer how small a sum can be."""
    return end_text(store.span(read_sum(" ".join(words[1:])))[0])


def answer_greatest(store, words):
    """Answer how great a sum can be."""
    return end_text(store.span(read_sum(" ".join(words[1:])))[1])


def answer_fixed(store, words):
    """Answer whether a sum is fixed, and its worth."""
    told = store.fixed(read_sum(" ".join(words[1:])))
    return f"fixed {fraction_text(told[1])}" if told[0] == "fixed" else "free"


def answer_follows(store, words):
    """Answer whether a row follows, or a point that breaks it."""
    told = store.follows(read_row(" ".join(words[1:])))
    return "yes" if told[0] == "follows" else f"no {point_text(told[1])}"


DEEDS = {
    "tell": do_tell, "take": do_take, "enter": do_enter, "leave": do_leave, "mark": do_mark, "back": do_back,
    "undo": do_undo, "again": do_again,
}
ANSWERS = {
    "names": answer_names, "marks": answer_marks, "level": answer_level, "show": answer_show,
    "verdict": answer_verdict, "least": answer_least, "greatest": answer_greatest, "fixed": answer_fixed,
    "follows": answer_follows,
}


def store_answer(store, words):
    """Tell how a line that is asked or done of a store is answered."""
    first = words[0]
    if first in DEEDS:
        deed = DEEDS[first]
        deed(store, words)
        return words_text(store.names())
    answer = ANSWERS[first]
    return answer(store, words)


class Desk:
    """Stores by words, one of them in use."""

    def __init__(self):
        self.kept = {"first": Store()}
        self.used = "first"

    def keep_copy(self, word):
        """Keep a copy of the store in use by the word."""
        self.kept[word] = self.kept[self.used].copy()
        return self.used

    def use_store(self, word):
        """Let the store of that word be in use."""
        if word not in self.kept:
            raise NoWord("no store is kept by the word")
        self.used = word
        return word

    def told(self, line):
        """Tell how a line is answered."""
        words = line.split(" ")
        if not is_line(words):
            raise NoLine("this is none of the lines")
        if words[0] == "copy":
            return self.keep_copy(words[1])
        if words[0] == "use":
            return self.use_store(words[1])
        if words[0] == "stores":
            return words_text(sorted(self.kept))
        return store_answer(self.kept[self.used], words)
