"""The errors that the program raises."""


class CourierError(ValueError):
    """The base class of all errors of the program."""


class BadModel(CourierError):
    """A value is no model, or no placing or text that fits one."""


class BadMark(CourierError):
    """A site is asked for an instance that is not there, or is there already."""


class BadAct(CourierError):
    """An act of a world is no act, or is not possible."""
