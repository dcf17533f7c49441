"""The refusals of the program, one class for each."""


class FolkError(ValueError):
    """Any refusal."""


class NoDeed(FolkError):
    """What was handed in is no deed of the roll, or no text of one."""


class NoSet(FolkError):
    """The deeds are no whole set."""


class NoPast(FolkError):
    """The deed had heard less than a deed of its past."""


class Poured(FolkError):
    """The deeds that are asked for are poured into a keepsake."""


class NoThing(FolkError):
    """What is named isn't there."""


class NoLeave(FolkError):
    """The deed would not be good."""


class NoRow(FolkError):
    """What the desk was told is none of its rows."""


class Unlike(FolkError):
    """Another deed of a name that is there already."""

    def __init__(self, name):
        FolkError.__init__(self, f"another deed has the name {name!r}")
        self.name = name
