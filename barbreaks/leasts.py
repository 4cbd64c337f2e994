"""The least distances of all points over all rows."""

from barbreaks.courses import Course


def fill_from(reach, start, table):
    """Writes the least distances between a point and all later ones, both ways."""
    moments = reach.moments_at(start)
    firsts = moments
    lasts = moments
    for goal in range(start + 1, len(table)):
        course = Course(reach.outlook, goal - 1, goal)
        firsts = [course(moment) for moment in firsts]
        lasts = [course.latest(moment) for moment in lasts]
        table[start][goal] = min([then - moment for moment, then in zip(moments, firsts)])
        table[goal][start] = min([moment - then for moment, then in zip(moments, lasts)])


def least_table(reach):
    """The least distances from each point, at index p, to each point, at index q."""
    count = reach.outlook.order.points
    table = [[0] * count for _ in range(count)]
    for start in range(count):
        fill_from(reach, start, table)
    return table
