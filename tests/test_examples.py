"""The examples of the document."""

import unittest

from barbreaks.crowds import fewest_studios
from barbreaks.desks import Desk
from barbreaks.distances import nearest
from barbreaks.errors import BadLine, BadRow, Begun, OffAir
from barbreaks.grids import Grid
from barbreaks.houses import House
from barbreaks.items import Break, Piece
from barbreaks.jams import jam_of
from barbreaks.judging import judge
from barbreaks.making import make_plan
from barbreaks.orders import Order
from barbreaks.ordertexts import read_order, write_order
from barbreaks.outlooks import Outlook
from barbreaks.patterns import Pattern
from barbreaks.places import spot_band
from barbreaks.reach import Reach
from barbreaks.runs import run
from barbreaks.searches import find_order
from barbreaks.spots import lay_spots
from barbreaks.troubles import trouble
from barbreaks.widths import widest
from tests.helpers import Case, doc_order


class TestExamples(Case):
    def test_grids(self):
        self.assertEqual((Grid(8, 3).first_bar(12), str(Grid(10, 4) & Grid(6, 2))), (19, "30+14"))

    def test_limit(self):
        self.assertEqual(doc_order()["eve"].limit, 30)

    def test_crowds_and_troubles(self):
        small = House(1, 2, walk=(0, 3), pack=(2, 4))
        slot = Break("slot", grid=Grid(10), minute=10, places=1, unit=10)
        chat = Piece("chat", grid=Grid(1), least=5, most=8)
        song = Piece("song", grid=Grid(1), least=6, most=6)
        full = Order(small, 0, [slot, chat, song])
        crowd = fewest_studios(full)
        self.assertEqual((crowd.count, crowd.names), (2, ["chat", "song"]))
        self.assertEqual(trouble(full, {}).word, "studios")

    def test_runs(self):
        order = doc_order()
        self.assertEqual(run(order, [(0,), (0, 4, 1, 0), (0,)]).moments,
                         [0, 10, 20, 20, 24, 30, 40])
        self.refuses(BadRow("talk"), run, order, [(0,), (0, 7, 1, 0), (0,)])

    def test_reach(self):
        reach = Reach(Outlook(doc_order()))
        self.assertEqual(reach.tables[4], [(24, 0), (25, 1), (26, 2)])
        self.assertEqual(nearest(reach, ("end", "talk"), ("begin", "eve")).ticks, 4)
        self.assertEqual(nearest(reach, ("enter", "talk"), ("begin", "talk")).ticks, 8)

    def test_spots(self):
        order = doc_order()
        self.assertEqual(spot_band(order).ends, (1, 1, 3, 3))
        self.assertEqual(lay_spots(order, {"cars": 2}).counts(), {"cars": 2})
        jam = jam_of(order, {"cars": 3})
        self.assertEqual((jam.kinds, jam.asked, jam.most), (["cars"], 3, 2))
        self.assertEqual((widest(order, {"cars": 2}).apart, widest(order, {"cars": 3}).apart), (25, 5))

    def test_plans_and_desks(self):
        plan = make_plan(doc_order(), {"cars": 2})
        self.assertEqual(judge(plan).line(), "4 demands, safe by 0")
        desk = Desk(plan)
        self.assertEqual([desk.press(0), desk.finish(), desk.press(0), desk.finish(6)], [10, 20, 20, 26])
        self.refuses(OffAir(), desk.finish)
        self.assertEqual((desk.walked("talk", 2), desk.left()), (12, ["eve"]))
        self.refuses(Begun("noon"), desk.retime, "noon", 7)

    def test_texts(self):
        self.assertEqual(write_order(doc_order()), (
            "house 2 2 1 14\nwalk 1 2\npack 0 1\nkind cars\nopens 0\nbreak noon 10 5 0 2 5 1\n"
            "piece talk 1 - 0 4 6\nbreak eve 10 20 0 2 5 2"))
        self.refuses(BadLine(2), read_order, "house 2 2 1 14\nwalk 2 1\npack 0 1\nopens 0")

    def test_searches(self):
        first = Break("first", grid=Grid(1), minute=5, places=1, unit=5)
        second = Break("second", grid=Grid(10), minute=20, places=1, unit=5)
        long = Piece("long", grid=Grid(1), least=12, most=14)
        short = Piece("short", grid=Grid(1), least=5, most=5)
        pattern = Pattern(House(1, 1), 0, [first, None, second, None], [long, short])
        found = find_order(pattern, {})
        self.assertEqual((found.names, found.tree[1][0][0], found.tree[1][0][1][0], found.tree[1][1][1]),
                         (["short", "long"], "long", "trouble", ("next", [("long", ("good",))])))


if __name__ == "__main__":
    unittest.main()
