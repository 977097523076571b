"""The refusals: each one is raised for one kind of thing that cannot be taken."""


class KeepError(ValueError):
    """Any refusal."""


class BadNumber(KeepError):
    """Something else was handed in where a number is asked for."""


class BadStretch(KeepError):
    """Something else was handed in where a stretch is asked for."""


class BadKeeper(KeepError):
    """Something else was handed in where a keeper is asked for."""


class BadText(KeepError):
    """Something else was handed in where the text of a keeper is asked for."""


class NoSuch(KeepError):
    """There is no number at the place that was asked for."""
