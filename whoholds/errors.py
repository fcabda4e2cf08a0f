"""The refusals of the program."""


class HoldError(ValueError):
    """Any refusal."""


class NoRow(HoldError):
    """A row is to be taken out that does not stand."""


class Round(HoldError):
    """Rooms call one another round."""


class TooMany(HoldError):
    """More than `most` would come."""

    def __init__(self, most):
        super().__init__(f"more than {most} would come")
        self.most = most
