"""The refusals, each with a class of its own."""


class MeetError(ValueError):
    """What all refusals have in common."""


class NoText(MeetError):
    """No text of a net."""


class NoMeeting(MeetError):
    """No meeting of so many places, or one more than can stand."""


class NoNumber(MeetError):
    """No number of what is asked for."""


class NoMoment(MeetError):
    """No moment that can be gone on to."""


class NotFit(MeetError):
    """Two nets that do not have as many places."""


class NoRow(MeetError):
    """No row that a desk can be told."""
