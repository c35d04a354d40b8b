"""The looker: whether a log of emptied pails is as the hands walk it."""

from pailchain.checks import is_number
from pailchain.orders import begun, check_ordered


def row_now(chain):
    """The log's row of this moment: the hour and all places."""
    return (chain.hour(), [chain.place(name) for name in chain.hands()])


def is_told(row, known):
    """Whether the row is the known one."""
    if row != known:
        return False
    # Python finds True equal to 1 and False to 0; the document does not count them as numbers.
    return all(is_number(part) for pair in [row[0]] + row[1] for part in pair)


def log_fault(labour, paces, rows):
    """The number of the first row that is not as it is, or None."""
    check_ordered(labour, paces)
    chain = begun(labour, paces)
    for number, row in enumerate(rows):
        chain.outs(1)
        if not is_told(row, row_now(chain)):
            return number
    return None
