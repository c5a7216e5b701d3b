import unittest
from itertools import combinations, product

from tests.samples import EDGE_SYSTEMS, HUGE, NO_SYSTEMS, NOT_ORDERLY, RefusalCase, small_systems
from tillcoins.errors import BadSystem, BadText
from tillcoins.texts import read, shown

NO_TEXTS = [
    # another kind of thing
    None, True, False, 0, 1, 1.0, HUGE, b"1", b"2/1", object(), len,
    [], ["1"], ["2", "1"], (), (1,), (1, 2), ("1",), {}, {"1": 1}, {"1"}, bytearray(b"1"),
    # nothing, or nothing where a coin should be
    "", " ", "/", "//", "/1", "1/", "2//1", "/2/1", "2/1/",
    # a 0 ahead
    "01", "02/1", "2/01", "002/1", "10/05/1", "0200/1",
    # a 0 by itself
    "0", "1/0", "2/1/0", "0/1",
    # a sign or a blank too much
    "+1", "-1", "+2/1", "2/+1", "2/-1", "-2/1", " 1", "1 ", "2 /1", "2/ 1", " 2/1", "2/1 ", "2/1\n", "\n2/1",
    "2\t/1", "1_0/1", "2.0/1", "2,1", "2\\1", "2|1", "2-1", "2 1", "2/1.", "(1, 2)", "[2/1]", "'1'", "2/1\0",
    # other signs
    "a", "x/1", "2/a", "0x2/1", "1e1/1", "II/I", "one",
    # figures that are not ours
    "\u0661", "\u0662/1", "2/\u0661", "\u00b2/1", "\uff12/\uff11", "2\u20441", "2\uff0f1", "\u2460",
    # rising coins, or a fall that is none
    "1/2", "1/2/5", "2/5/1", "5/1/2", "3/4/2/1", "10/9/11/1",
    # a coin twice
    "1/1", "2/2/1", "5/2/2/1", "2/1/1", "200/200/1",
    # no 1 at the end
    "2", "200", "3/2", "10/5", "11", "21", "1/0/1",
    # nine coins and more
    "9/8/7/6/5/4/3/2/1", "200/100/50/20/10/5/3/2/1", "/".join(str(coin) for coin in range(200, 0, -1)),
    # beyond 200
    "201/1", "201/200/1", "201", "1000/1", "2000/1", "9" * 5000 + "/1", "9" * 5000,
]


class ShownTest(RefusalCase):
    def test_from_the_greatest_to_1(self):
        self.assertEqual(shown((1, 2, 5)), "5/2/1")
        self.assertEqual(shown((1, 5, 10, 25, 50, 100)), "100/50/25/10/5/1")

    def test_one_coin_two_and_eight(self):
        self.assertEqual(shown((1,)), "1")
        self.assertEqual(shown((1, 200)), "200/1")
        self.assertEqual(shown((1, 2, 5, 10, 20, 50, 100, 200)), "200/100/50/20/10/5/2/1")

    def test_each_coin(self):
        for coin in range(2, 201):
            self.assertEqual(shown((1, coin)), f"{coin}/1")

    def test_what_is_no_system(self):
        for place, thing in enumerate(NO_SYSTEMS):
            with self.subTest(place=place):
                self.assert_refused(BadSystem, shown, thing)


class ReadTest(RefusalCase):
    def test_read(self):
        self.assertEqual(read("1"), (1,))
        self.assertEqual(read("200/1"), (1, 200))
        self.assertEqual(read("5/2/1"), (1, 2, 5))
        self.assertEqual(read("200/100/50/20/10/5/2/1"), (1, 2, 5, 10, 20, 50, 100, 200))

    def test_what_is_shown_is_read_to_the_same_system(self):
        for system in small_systems(12) + EDGE_SYSTEMS + NOT_ORDERLY + [(1, coin) for coin in range(2, 201)]:
            told = read(shown(system))
            self.assertIsInstance(told, tuple)
            self.assertEqual(told, system)

    def test_all_short_texts(self):
        written = {"1": (1,)}
        for many in (1, 2):
            for others in combinations(range(2, 201), many):
                system = (1,) + others
                written["/".join(str(coin) for coin in reversed(system))] = system
        for length in range(6):
            for signs in product("0125/ -", repeat=length):
                text = "".join(signs)
                if text in written:
                    self.assertEqual(read(text), written[text])
                else:
                    self.assert_refused(BadText, read, text)

    def test_what_is_no_text_of_a_system(self):
        for place, thing in enumerate(NO_TEXTS):
            with self.subTest(place=place):
                self.assert_refused(BadText, read, thing)

    def test_one_sign_too_much_anywhere(self):
        for text in ("1", "5/2/1", "200/100/1"):
            for place in range(len(text) + 1):
                for sign in " +-_.,;\n\t\r\0\u00a0\u0661/":
                    self.assert_refused(BadText, read, text[:place] + sign + text[place:])


if __name__ == "__main__":
    unittest.main()
