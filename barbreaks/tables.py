"""Checks tables of moments, made by the program or by hand."""

from barbreaks.reach import next_table


def check_tables(outlook, tables):
    """True if the tables are those of the outlook.

    From a right table, the conditions on the next one let only one list pass:
    each moment that follows must be there, no other moment may be, and each
    lateness is at most every sum that leads to it and equal to one of them.
    """
    order = outlook.order
    if len(tables) != order.points or list(tables[0]) != [(order.opens, 0)]:
        return False
    for point in range(order.points - 1):
        if list(tables[point + 1]) != next_table(outlook, point, tables[point]):
            return False
    return True
