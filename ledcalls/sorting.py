"""Sets as ascending tuples."""


def is_ascending(things):
    """Return whether each of the things is greater than the one before."""
    return all([things[k] < things[k + 1] for k in range(len(things) - 1)])


def ascending(things):
    """Return the set of the things of a list or a tuple: an ascending tuple, each of them once."""
    # Python's own sorting may not be used on tuples beside a class with an order.
    if len(things) < 2:
        return tuple(things)
    half = len(things) // 2
    return _merged(ascending(things[:half]), ascending(things[half:]))


def _merged(lows, highs):
    """Return the set of the things of two sets."""
    rows = []
    low = high = 0
    while low < len(lows) and high < len(highs):
        if highs[high] < lows[low]:
            rows.append(highs[high])
            high = high + 1
        else:
            if not lows[low] < highs[high]:
                high = high + 1
            rows.append(lows[low])
            low = low + 1
    return (*rows, *lows[low:], *highs[high:])
