"""The errors by which the program refuses what is handed in."""


class GlassError(ValueError):
    """Whatever the program refuses."""


class BadRow(GlassError):
    """What was handed in as a row is none."""


class BadEvening(GlassError):
    """What was handed in as an evening is none that can be."""
