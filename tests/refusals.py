"""What the tests of refusals share."""

# Thirty figures, the most that a number may have where a refusal tells of it.
FAR = 10 ** 30 - 1

NO_DAYS = [-FAR, -999, -1, 0, 1000, 1001, 10 ** 12, FAR]
NO_TERMS = [-FAR, -400, -1, 401, 402, 999, FAR]
NO_COUNTS = [-FAR, -10000000000, -1, 0, 10000000001, FAR]
NO_DUTIES = [-FAR, -1000000, -1, 0, 1000001, FAR]


def outcome(call, *given):
    """What a call tells, or the very class of what it raises."""
    try:
        return call(*given)
    except Exception as error:
        return type(error)
