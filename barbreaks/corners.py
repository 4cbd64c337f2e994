"""Corners: rows in which the lags on which a point depends are all greatest, or all least."""

from barbreaks.errors import NoPoint


def joined_row(outlook, point, before, behind):
    """The row with the delays and lengths on which the point depends from the row `before`.

    The other delays and lengths are from the row `behind`; the walks are least
    and the packs greatest.
    """
    if not 0 <= point < outlook.order.points:
        raise NoPoint(point)
    soon = outlook.first_row()
    late = outlook.last_row()
    row = []
    for number in range(len(soon)):
        delays = before if 2 * number + 1 <= point else behind
        lengths = before if 2 * number + 2 <= point else behind
        lags = (delays[number][0], *lengths[number][1:2], *soon[number][2:3], *late[number][3:])
        row.append(lags)
    return row


def corner(outlook, point):
    """The row in which the point comes latest and nothing behind it is late."""
    return joined_row(outlook, point, outlook.last_row(), outlook.first_row())


def hollow(outlook, point):
    """The row in which the point comes earliest and all behind it is late."""
    return joined_row(outlook, point, outlook.first_row(), outlook.last_row())
