"""The refusals of the program."""


class LeanError(ValueError):
    """Any refusal."""


class NoNumber(LeanError):
    """What was handed in is no whole number."""


class NoRow(LeanError):
    """What was handed in is no row, or no list of rows."""


class NoText(LeanError):
    """What was handed in is no text that shows a row."""


class NoDeeds(LeanError):
    """What was handed in is no text of deeds."""


class NoCost(LeanError):
    """What was handed in is no cost of a doubling or of a step."""
