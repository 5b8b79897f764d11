"""Any values: copies of them, and spellings that tell their kinds apart."""


def copied(value):
    """A copy of any value that shares no list and no dict with it."""
    if isinstance(value, list):
        return [copied(part) for part in value]
    if isinstance(value, tuple):
        return tuple([copied(part) for part in value])
    if isinstance(value, dict):
        return {key: copied(value[key]) for key in value}
    return value


def spelling(value):
    """A string for any value: the same one just for values that are equal in their kinds, too.

    It is what `repr` tells, but for dicts, whose order plays no part.
    """
    if isinstance(value, tuple):
        parts = [spelling(part) for part in value]
        end = "," if len(parts) == 1 else ""
        return "(" + ", ".join(parts) + end + ")"
    if isinstance(value, list):
        parts = [spelling(part) for part in value]
        return "[" + ", ".join(parts) + "]"
    if isinstance(value, dict):
        parts = sorted([f"{spelling(key)}: {spelling(value[key])}" for key in value])
        return "{" + ", ".join(parts) + "}"
    return repr(value)
