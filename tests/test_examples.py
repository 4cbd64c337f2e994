"""The examples of the document, as far as the program goes."""

import unittest

from barbreaks.crowds import fewest_studios
from barbreaks.distances import nearest
from barbreaks.errors import BadRow
from barbreaks.grids import Grid
from barbreaks.houses import House
from barbreaks.items import Break, Piece
from barbreaks.jams import jam_of
from barbreaks.orders import Order
from barbreaks.outlooks import Outlook
from barbreaks.places import spot_band
from barbreaks.reach import Reach
from barbreaks.runs import run
from barbreaks.spots import lay_spots
from barbreaks.troubles import trouble
from barbreaks.widths import widest
from tests.helpers import Case, doc_order


class TestExamples(Case):
    def test_grids(self):
        self.assertEqual((Grid(8, 3).first_bar(12), str(Grid(10, 4) & Grid(6, 2))), (19, "30+14"))

    def test_limit(self):
        self.assertEqual(doc_order()["eve"].limit, 30)

    def test_crowds_and_troubles(self):
        small = House(1, 2, walk=(0, 3), pack=(2, 4))
        slot = Break("slot", grid=Grid(10), minute=10, places=1, unit=10)
        chat = Piece("chat", grid=Grid(1), least=5, most=8)
        song = Piece("song", grid=Grid(1), least=6, most=6)
        full = Order(small, 0, [slot, chat, song])
        crowd = fewest_studios(full)
        self.assertEqual((crowd.count, crowd.names), (2, ["chat", "song"]))
        self.assertEqual(trouble(full, {}).word, "studios")

    def test_words_of_the_order(self):
        self.assertEqual([" ".join(item.words()) for item in doc_order()],
                         ["noon 10 5 0 2 5 1", "talk 1 - 0 4 6", "eve 10 20 0 2 5 2"])

    def test_runs(self):
        order = doc_order()
        self.assertEqual(run(order, [(0,), (0, 4, 1, 0), (0,)]).moments,
                         [0, 10, 20, 20, 24, 30, 40])
        self.refuses(BadRow("talk"), run, order, [(0,), (0, 7, 1, 0), (0,)])

    def test_reach(self):
        reach = Reach(Outlook(doc_order()))
        self.assertEqual(reach.tables[4], [(24, 0), (25, 1), (26, 2)])
        self.assertEqual(nearest(reach, ("end", "talk"), ("begin", "eve")).ticks, 4)
        self.assertEqual(nearest(reach, ("enter", "talk"), ("begin", "talk")).ticks, 8)

    def test_spots(self):
        order = doc_order()
        self.assertEqual(spot_band(order).ends, (1, 1, 3, 3))
        self.assertEqual(lay_spots(order, {"cars": 2}).counts(), {"cars": 2})
        jam = jam_of(order, {"cars": 3})
        self.assertEqual((jam.kinds, jam.asked, jam.most), (["cars"], 3, 2))
        self.assertEqual((widest(order, {"cars": 2}).apart, widest(order, {"cars": 3}).apart), (25, 5))


if __name__ == "__main__":
    unittest.main()
