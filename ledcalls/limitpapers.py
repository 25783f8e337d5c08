"""Papers that show that no limit is sure."""

from ledcalls.limitsearch import best_good, least_round
from ledcalls.needs import need_house


def unsure_paper(house):
    """Return a paper of a good call and one that goes round, None if there is a sure limit."""
    need_house(house)
    limit, good = best_good(house)
    uncut, going = least_round(house)
    if uncut is None or uncut > limit:
        return None
    return ("unsure", good, going)
