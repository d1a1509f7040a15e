"""The errors of the package."""


class DiscError(ValueError):
    """The base of all errors of the package."""


class InvalidNumber(DiscError):
    """A number that is none, or not within its limits."""


class InvalidTurn(DiscError):
    """A turn that is no integer."""


class InvalidSlot(DiscError):
    """A slot that the disc does not have."""


class Impossible(DiscError):
    """There is no such answer."""


class NothingToUndo(DiscError):
    """No call is left that could be taken back."""


class InvalidCommand(DiscError):
    """A command that has none of the forms."""


class InvalidDisc(DiscError):
    """No disc: index is that of the first wrong item, None if the whole is wrong."""

    def __init__(self, index):
        DiscError.__init__(self, f"not a disc that can stand here (index: {index})")
        self.index = index


class InvalidRow(DiscError):
    """No row: index is that of the first wrong item, None if the whole is wrong."""

    def __init__(self, index):
        DiscError.__init__(self, f"not a row that can stand here (index: {index})")
        self.index = index


class InvalidLights(DiscError):
    """No lights: index is that of the first wrong item, None if the whole is wrong."""

    def __init__(self, index):
        DiscError.__init__(self, f"not lights that can stand here (index: {index})")
        self.index = index


class InvalidLooks(DiscError):
    """No looks: index is that of the first wrong item, None if the whole is wrong."""

    def __init__(self, index):
        DiscError.__init__(self, f"not looks that can stand here (index: {index})")
        self.index = index


class InvalidSyntax(DiscError):
    """A text that is none: word is the index of the first wrong one, None if it is no string."""

    def __init__(self, word):
        DiscError.__init__(self, f"not a text that can stand here (word: {word})")
        self.word = word
