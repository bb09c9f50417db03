"""The errors with which the program refuses what is handed in."""


class SetError(ValueError):
    pass


class BadFace(SetError):
    pass


class BadRules(SetError):
    pass


class BadBook(SetError):
    pass


class BadWord(SetError):
    pass


class BadBlocks(SetError):
    pass


class BadText(SetError):
    def __init__(self, row):
        SetError.__init__(self, f"no block that can be read begins at row {row}")
        self.row = row


class BadBreaks(SetError):
    pass


class TooWide(SetError):
    pass


class NoPlace(SetError):
    pass


class NoNote(SetError):
    pass
