"""The errors of the package, each one straight under CutsError."""


class CutsError(ValueError):
    """Something that this package refuses."""


class Unfit(CutsError):
    """An argument does not fit what it is handed in for."""


class BadText(CutsError):
    """A value is the text of no plan."""


class BadPlan(CutsError):
    """A value is no plan; error is what plan_error tells of it."""

    def __init__(self, error):
        super().__init__("this is no plan")
        self.error = error


class TooMany(CutsError):
    """Something is above the bound limit."""

    def __init__(self, limit):
        super().__init__("this is above the limit")
        self.limit = limit


class TooManyEdits(CutsError):
    """As many edits stand as a sheet can have."""


class NothingToUndo(CutsError):
    """No edit stands that could be taken back."""


class NothingToRedo(CutsError):
    """No edit was taken back that could be done again."""


class BadLog(CutsError):
    """A log is none, or its item at place is refused."""

    def __init__(self, place):
        super().__init__("this log cannot be followed")
        self.place = place
