"""Point 82: deeds in a text."""

import unittest

from barbreaks.errors import (BadLine, BadNumber, BadWord, Begun, OffAir, Outside, Unknown)
from barbreaks.scripts import perform
from tests.desk_days import a_desk, state_of
from tests.helpers import Case

BIG = 10 ** 40 - 1
DAY = """press 1
walked talk 2
expect song length 4 4
finish
put eve 1 .
press 0
room tune 0
finish 7
packed talk 0
staff tune 0
retime eve 18
space 15
swap song tune
put eve 1 soap"""


class TestPerform(Case):
    def keeps_state(self, expected, text, *deeds):
        """The text is refused and leaves the desk as it was."""
        desk = a_desk(*deeds)
        before = state_of(desk)
        self.refuses(expected, perform, desk, text)
        self.assertEqual(state_of(desk), before)

    def test_the_whole_text(self):
        desk = a_desk()
        self.assertEqual(perform(desk, DAY), [3, 5, None, 13, None, 13, None, 20, 20, None, None, None, None, None])
        other = a_desk(("attempt", [
            ("press", 1), ("walked", "talk", 2), ("expect", "song", "length", 4, 4), ("finish",),
            ("put", "eve", 1, None), ("press", 0), ("room", "tune", 0), ("finish", 7), ("packed", "talk", 0),
            ("staff", "tune", 0), ("retime", "eve", 18), ("space", 15), ("swap", "song", "tune"),
            ("put", "eve", 1, "soap")]))
        self.assertEqual(state_of(desk), state_of(other))
        self.assertEqual([deed[0] for deed in desk], ["attempt"])

    def test_the_empty_text(self):
        desk = a_desk()
        self.assertEqual(perform(desk, ""), [])
        self.assertEqual(desk.deeds, [("attempt", ())])

    def test_one_line(self):
        desk = a_desk()
        self.assertEqual(perform(desk, "press 2"), [4])
        self.assertEqual(perform(desk, "finish 10"), [14])
        desk.undo()
        self.assertEqual((desk.point, desk.moments), (1, [0, 4]))

    def test_faulty_lines(self):
        for line in ["", " ", "press", "press 0 0", "press  0", " press 0", "press 0 ", "Press 0", "press\t0", "x",
                     "undo", "attempt", "known", "walked talk", "walked 1", "walked talk 1 1", "packed talk",
                     "packed  talk 1", "expect talk walk 0", "expect talk walk 0 0 0", "expect talk  0 0",
                     "expect  walk 0 0", "put noon 0", "put noon 0 cars cars", "put noon 0 ", "put  0 cars",
                     "room talk", "room talk 0 0", "staff talk", "staff  0", "retime noon", "retime noon 0 0",
                     "swap talk", "swap talk song tune", "swap talk ", "swap  talk", "space", "space 0 0",
                     "finish 1 2", "finish ", " finish", "finish  1"]:
            self.keeps_state(BadLine(1), f"{line}\nx")
            self.keeps_state(BadLine(2), f"press 0\n{line}")

    def test_faulty_numbers(self):
        for number in ["x", "+1", "01", "-0", "1.0", "-", str(BIG + 1), f"-{BIG + 1}", "."]:
            for form in ["press N", "finish N", "walked talk N", "packed talk N", "expect talk walk N 0",
                         "expect talk walk 0 N", "put noon N cars", "room talk N", "staff talk N", "retime noon N",
                         "space N"]:
                self.keeps_state(BadLine(1), form.replace("N", number))
                self.keeps_state(BadLine(3), "press 0\nfinish\n" + form.replace("N", number))

    def test_numbers_of_forty_digits(self):
        self.keeps_state(Outside("delay"), f"press {BIG}")
        self.keeps_state(Outside("delay"), f"press -{BIG}")
        self.keeps_state(BadNumber(BIG), f"put noon {BIG} cars")

    def test_lines_come_before_deeds(self):
        self.keeps_state(BadLine(2), "press 9\npress")
        self.keeps_state(BadLine(3), "finish\nfinish\nx\n")
        self.keeps_state(BadLine(2), "press 0\n")
        self.keeps_state(BadLine(1), "\npress 0")
        self.keeps_state(BadLine(1), "\n")

    def test_errors_of_the_attempt(self):
        self.keeps_state(OffAir(), "finish\npress 0")
        self.keeps_state(OffAir(), "press 0\nfinish\nfinish 3")
        self.keeps_state(Unknown("x"), "press 0\nwalked x 1")
        self.keeps_state(Unknown("tea"), "put noon 0 tea")
        self.keeps_state(BadWord("x"), "expect talk x 0 0")
        self.keeps_state(Begun("noon"), "press 0\nput noon 0 .")

    def test_any_texts_for_names(self):
        for text in ["N", "noon!", "1", ".", "-", "press", "Caf~", "a\tb"]:
            self.keeps_state(Unknown(text), f"walked {text} 1")
            self.keeps_state(Unknown(text), f"swap talk {text}")
            if text != ".":
                self.keeps_state(Unknown(text), f"put noon 0 {text}")
            self.keeps_state(BadWord(text), f"expect talk {text} 0 0")

    def test_no_spot(self):
        desk = a_desk()
        perform(desk, "put noon 0 .")
        self.assertIsNone(desk["noon", 0])
        self.assertEqual(desk.deeds, [("attempt", (("put", "noon", 0, None),))])

    def test_finish_in_a_text(self):
        desk = a_desk(("press", 0))
        self.assertEqual(perform(desk, "finish\npress 0\nfinish 7"), [12, 12, 19])
        self.assertEqual(desk.deeds[-1], ("attempt", (("finish", 10), ("press", 0), ("finish", 7))))


if __name__ == "__main__":
    unittest.main()
