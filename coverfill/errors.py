"""The refusals: one class for each, all under CoverError."""


class CoverError(ValueError):
    """Any refusal."""


class NoRatio(CoverError):
    """A bottom of 0, or a quotient by nought."""


class NoLayer(CoverError):
    """A number by which no layer lies."""


class NoPlace(CoverError):
    """A place that is none."""


class NoText(CoverError):
    """A text that writes nothing that can be read."""


class NoRow(CoverError):
    """A row that the desk does not know."""


class NoName(CoverError):
    """A name by which no shape stands."""


class NoCell(CoverError):
    """A cell that is not on the floor."""
