"""The form of the events of an office, and of logs."""

from idleclaims.kinds import is_integer

# For each word the least numbers that may stand behind it; where seats are told, at least one.
EVENTS = {
    "pupil": (),
    "school": (1,),
    "pair": (0, 0, 0, 0),
    "wish": (0, 0, 0),
    "roll": (0, 0, 0),
    "seats": (0, 1),
    "strike": (0, 0),
    "waive": (0, 0),
    "claim": (0, 0),
}


def is_event(thing):
    """Is thing an event?"""
    if not isinstance(thing, tuple) or not thing:
        return False
    word, *numbers = thing
    least = least_numbers(word)
    if least is None or len(numbers) != len(least):
        return False
    return all(_is_from(number, low) for number, low in zip(numbers, least))


def is_log(thing):
    """Is thing a tuple of events?"""
    return isinstance(thing, tuple) and all(is_event(event) for event in thing)


def least_numbers(thing):
    """The least numbers that may stand behind this word; None if thing is no word of an event."""
    return EVENTS.get(thing) if isinstance(thing, str) else None


def _is_from(thing, low):
    return is_integer(thing) and thing >= low
