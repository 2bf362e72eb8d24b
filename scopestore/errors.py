"""The refusals: StoreError, and straight under it one class for each kind of them."""


class StoreError(ValueError):
    """What every refusal of the program is."""


class NoFraction(StoreError):
    """A bottom of 0, or a division by nought."""


class NoRow(StoreError):
    """What was handed in makes no row."""


class NoName(StoreError):
    """No name, no word, or a name under which no row stands."""


class Stands(StoreError):
    """A row stands under the name already."""


class Full(StoreError):
    """More rows or more unknowns than a store keeps."""


class NoLevel(StoreError):
    """No level is entered that could be left."""


class NoMark(StoreError):
    """Nothing is marked by the word."""


class NothingDone(StoreError):
    """There is no deed to undo, or none to do again."""


class NoPoint(StoreError):
    """No point keeps all rows."""


class NoStep(StoreError):
    """What was handed in is no step, or it names no row of the sort is."""


class NoNumber(StoreError):
    """A row was to be taken nought times."""


class NoNames(StoreError):
    """Two unlike unknowns would become one."""


class NoText(StoreError):
    """The text is not written as fractions, sums or rows are."""


class NoLine(StoreError):
    """The line is none that a desk is told."""


class NoWord(StoreError):
    """No store is kept by the word."""
