import inspect
import itertools
import re
import unittest

from ringpop.changes import less_place
from ringpop.errors import NoText
from ringpop.texts import read_net, read_piles, read_tree, show_net, show_piles, show_tree

from listing import listed_trees
from oddities import oddities
from refusing import check_refused
from samples import Dice, fitting_piles, full_net, great_nets, small_nets
from sharing import check_sharing

TEXT = "-; 0 2*3; 1"
NET = [[], [(0, 1), (2, 3)], [(1, 1)]]
FULL = full_net(8, [0])
THIRTY = 10 ** 30 - 1
# Digits of other writings, which Python's int would read, and signs that look like blanks or parts.
OTHER_DIGITS = ("\u0661", "\uff11", "\u0967", "\U0001d7cf", "\u00b9", "\u2460", "\u00bd", "\u4e00")
OTHER_BLANKS = ("\n", "\t", "\r", "\v", "\f", "\u00a0", "\u2003", "\u3000", "\u200b", "\ufeff", "\x00", "\x1c", "\x85")
OTHER_SIGNS = ("+", "-", "_", ".", ",", "/", "x", "e", "\u2212", "\u037e", "\u00d7", "*", ";", ":", "(", "\ud800")
# A second way of reading, which asks for signs alone.
NET_TEXT = re.compile(
    r"(-|{arrow}( {arrow})*)(; (-|{arrow}( {arrow})*))*".replace(
        "{arrow}", r"(0|[1-9][0-9]{0,29})([*]([2-9]|[1-9][0-9]{1,29}))?"
    )
)


def fits_itself(text):
    parts = text.split("; ")
    rows = [re.findall(r"(?<![*0-9])[0-9]+", part) for part in parts]
    return len(parts) <= 8 and all(
        row == sorted(set(row)) and all(int(end) < len(parts) for end in row) for row in rows
    )


def odd_things():
    return [None, 0, 1, [], [TEXT], (TEXT,), {TEXT: TEXT}, TEXT.encode(), NET, list(TEXT)] + [
        thing for thing in oddities() if not isinstance(thing, str)
    ]


def marred(text):
    """The text with one sign too many, one left out, or another one in its place."""
    signs = OTHER_DIGITS + OTHER_BLANKS + OTHER_SIGNS + (" ", "0")
    found = []
    for at in range(len(text) + 1):
        found += [text[:at] + sign + text[at:] for sign in signs]
        if at < len(text):
            found.append(text[:at] + text[at + 1:])
            found += [text[:at] + sign + text[at + 1:] for sign in signs]
    return sorted(set(found) - {text})


class TestInterface(unittest.TestCase):
    def test_names_of_arguments(self):
        self.assertEqual(str(inspect.signature(read_net)), "(text)")
        self.assertEqual(str(inspect.signature(read_piles)), "(net, text)")
        self.assertEqual(str(inspect.signature(read_tree)), "(net, text)")
        self.assertEqual(str(inspect.signature(show_net)), "(net)")
        self.assertEqual(str(inspect.signature(show_piles)), "(piles)")
        self.assertEqual(str(inspect.signature(show_tree)), "(tree)")


class TestNets(unittest.TestCase):
    def both(self, text, net):
        self.assertEqual(read_net(text), net)
        self.assertEqual(show_net(net), text)
        self.assertIs(type(show_net(net)), str)

    def refused(self, text):
        check_refused(self, NoText, read_net, text)

    def test_written_and_read(self):
        self.both(TEXT, NET)
        self.both("-", [[]])
        self.both("0", [[(0, 1)]])
        self.both("0*2", [[(0, 2)]])
        self.both("-; -", [[], []])
        self.both("1; 0", [[(1, 1)], [(0, 1)]])
        self.both("0*10 1; -", [[(0, 10), (1, 1)], []])
        self.both("0 1; 0*20 1*300", [[(0, 1), (1, 1)], [(0, 20), (1, 300)]])
        self.both("-; -; -; -; -; -; -; -", [[] for place in range(8)])
        self.both("-; " + "; ".join(["0 1 2 3 4 5 6 7"] * 7), FULL)

    def test_the_kinds_of_what_is_read(self):
        net = read_net(TEXT)
        self.assertEqual([type(row) for row in net], [list, list, list])
        self.assertEqual([[type(arrow) for arrow in row] for row in net], [[], [tuple, tuple], [tuple]])
        self.assertEqual([type(number) for number in net[1][1]], [int, int])

    def test_what_is_shown_is_read_again(self):
        for net in small_nets() + great_nets(1, 8) + [full_net(8, [7], THIRTY)]:
            self.assertEqual(read_net(show_net(net)), net)
            self.assertEqual(show_net(read_net(show_net(net))), show_net(net))

    def test_numbers_of_thirty_figures(self):
        for weight in (10 ** 29, THIRTY, 123456789012345678901234567890):
            self.both(f"0*{weight}", [[(0, weight)]])
        for weight in (10 ** 30, 10 ** 30 + 1, 10 ** 31 - 1, 10 ** 60, 10 ** 4000):
            self.refused(f"0*{weight}")
            self.refused(f"-; 0 1*{weight}")
        self.refused("0*" + "9" * 5000)
        self.refused("0*" + "0" * 31)
        self.refused("9" * 5000)
        self.refused("0*" + "0" * 29 + "2")

    def test_longer_weights_are_shown(self):
        for figures in (31, 59, 60, 61, 119, 120, 121, 4299, 4300, 4301, 10000):
            noughts = "0" * (figures - 1)
            self.assertEqual(show_net([[], [(0, 10 ** (figures - 1)), (1, 7)]]), "-; 0*1" + noughts + " 1*7")
            self.assertEqual(show_net([[(0, 10 ** figures - 1)]]), "0*" + "9" * figures)
            self.assertEqual(show_net([[(0, (10 ** figures - 1) // 9 * 7)]]), "0*" + "7" * figures)
            self.refused("0*" + "7" * figures)
        weight = 10 ** 150 + 5 * 10 ** 70 + 3
        self.assertEqual(show_net([[(0, weight)]]), "0*" + str(weight))

    def test_a_net_that_lost_places_is_shown_but_not_read(self):
        net = full_net(8, [0], THIRTY)
        for turn in range(6):
            net = less_place(net, len(net) - 1)
            text = "; ".join(["-"] + [" ".join(f"{to}*{weight}" for to, weight in row) for row in net[1:]])
            self.assertEqual(show_net(net), text)
            self.refused(text)

    def test_beyond_the_bounds(self):
        nine = [[] for place in range(8)] + [[(0, 2), (8, 1)]]
        self.assertEqual(show_net(nine), "-; -; -; -; -; -; -; -; 0*2 8")
        eleven = [[(10, 1)]] + [[] for place in range(10)]
        self.assertEqual(show_net(eleven), "10" + "; -" * 10)

    def test_a_ninth_place(self):
        self.both("; ".join(["-"] * 8), [[] for place in range(8)])
        for many in (9, 10, 11, 100):
            self.refused("; ".join(["-"] * many))
            self.refused("; ".join(["0"] * many))

    def test_texts_of_the_document(self):
        for text in ("0*1", "00", "1 0", ""):
            self.refused(text)
            self.refused("-; " + text)
            self.refused(text + "; -")
            self.refused("-; " + text + "; -")

    def test_what_is_written_but_is_no_net(self):
        for text in ("1", "2; -", "-; 2", "0 0; -", "0 0*2; -", "1 0; -", "-; 1 0", "0 1 1; -", "10; -", "0*2 0; -"):
            self.refused(text)

    def test_noughts_and_ones(self):
        for text in ("0*0", "0*00", "0*01", "0*02", "00*2", "01; -", "-; 01", "-; 00", "0*1; -", "1*1; 0", "0*002"):
            self.refused(text)

    def test_stars(self):
        for text in ("*", "0*", "*2", "0**2", "0*2*", "0*2*3", "*0*2", "0 *2", "0* 2", "0 * 2", "-*2", "0*-", "0*2.0"):
            self.refused(text)

    def test_parts_without_signs(self):
        for text in (";", "; ", " ;", "; -", "-; ", "-;", "-; ; -", "-;; -", "; ; ", "-; -; ", "; 0 1; 1"):
            self.refused(text)

    def test_blanks_too_many_or_too_few(self):
        for text in (" ", "  ", " -", "- ", "-;-", "-;  -", "- ; -", "-; 0  1", "-;0", "-; 0 ", "-;  0", "0 1;-"):
            self.refused(text)

    def test_blank_or_root_within_a_row(self):
        for text in ("- -", "--", "- 0", "0 -", "-; - 0", "-; 0 -", "-0", "-; -0", "-; +0", "+", "-; 0*+2", "-; 0*-2"):
            self.refused(text)

    def test_signs_of_other_kinds(self):
        for sign in OTHER_DIGITS:
            for text in (sign, "0 " + sign + "; -", "0*" + sign, "0*1" + sign, "0*" + sign + "2", "-; " + sign):
                self.refused(text)
        for sign in OTHER_BLANKS:
            for text in (sign, "0" + sign, sign + "0", "-" + sign, "-;" + sign + "-", "0*2" + sign):
                self.refused(text)
        self.refused("0*1_0")
        self.refused("0*1e5")
        self.refused("0*0x10")
        self.refused("0 1\n; -")

    def test_one_sign_amiss(self):
        for text in marred(TEXT) + marred("0*23 1; -"):
            if NET_TEXT.fullmatch(text) and fits_itself(text):
                self.assertEqual(show_net(read_net(text)), text)
            else:
                self.refused(text)
        self.assertEqual(read_net("-; 0 2*30; 1"), [[], [(0, 1), (2, 30)], [(1, 1)]])

    def test_things_that_are_no_text(self):
        for thing in odd_things():
            self.refused(thing)

    def test_long_texts(self):
        for text in ("0" * 10 ** 5, "-; " * 10 ** 5, "0 " * 10 ** 5, "*" * 10 ** 5, " " * 10 ** 5, "a text"):
            self.refused(text)

    def test_all_stays_and_is_not_shared(self):
        for net in [NET, [[]], [[], []]] + great_nets(1, 8):
            check_sharing(self, show_net, net)
            check_sharing(self, read_net, show_net(net))


class TestPiles(unittest.TestCase):
    def both(self, net, text, piles):
        self.assertEqual(read_piles(net, text), piles)
        self.assertEqual(show_piles(piles), text)
        self.assertIs(type(show_piles(piles)), str)

    def refused(self, net, text):
        check_refused(self, NoText, read_piles, net, text)

    def test_written_and_read(self):
        self.both(NET, "-; 0 2 2; 1 1", [[], [0, 2, 2], [1, 1]])
        self.both(NET, "-; 2 0; 1", [[], [2, 0], [1]])
        self.both(NET, "-; -; -", [[], [], []])
        self.both(NET, "-; 0; -", [[], [0], []])
        self.both([[]], "-", [[]])
        self.both([[(0, 5)]], "0 0 0", [[0, 0, 0]])
        self.both(FULL, "-; 7 0 7; -; 3; 4; 5; 6; 7 7 7 7", [[], [7, 0, 7], [], [3], [4], [5], [6], [7] * 4])

    def test_piles_of_forty_and_of_more(self):
        net = [[(0, 1), (1, 1)], []]
        self.both(net, "1" + " 0" * 39 + "; -", [[1] + [0] * 39, []])
        for many in (41, 42, 80):
            text = " ".join(["0"] * many) + "; -"
            self.refused(net, text)
            self.assertEqual(show_piles([[0] * many, []]), text)

    def test_what_is_shown_is_read_again(self):
        dice = Dice(51)
        for net in small_nets() + great_nets(1, 8):
            for most in (1, 5, 40):
                piles = fitting_piles(dice, net, most)
                self.assertEqual(read_piles(net, show_piles(piles)), piles)

    def test_piles_that_do_not_fit_the_net(self):
        for text in ("-; 1; 1", "-; 0 1; 1", "-; 0; 2", "0; 0; 1", "1; 0; 1", "-; 0", "-", "-; 0; 1; -", "-; 3; 1"):
            self.refused(NET, text)
        self.refused([[]], "0")
        self.refused([[]], "-; -")
        self.refused([[(1, 1)], []], "0; -")
        self.refused([[] for place in range(8)], "; ".join(["-"] * 9))
        self.refused(FULL, "-; 8; -; -; -; -; -; -")

    def test_what_is_not_written_so(self):
        texts = (
            "", " ", ";", "; ", "-; 0; ", "-; ; 1", "; 0; 1", "-;0; 1", "-; 0;1", "-; 0;  1", "-;  0; 1", "- ; 0; 1",
            "-; 0; 1 ", " -; 0; 1", "-; 0  2; 1", "-; 00; 1", "-; 0 02; 1", "-; 0; 01", "-; 0*1; 1", "-; 0 2*3; 1",
            "-; -0; 1", "-; +0; 1", "-; 0; +1", "-; 0 -; 1", "-; - 0; 1", "--; 0; 1", "-; 0, 2; 1", "- 0 1", "-; 0; 1;",
            "-; 0; 1\n", "-; 0\n; 1", "-; 0\t2; 1", "-; 0;\n1", "-; 0; 1.0", "-; 0; 0x1", "-; 0; 1_", "[]; [0]; [1]",
        )
        for text in texts:
            self.refused(NET, text)
        for sign in OTHER_DIGITS + OTHER_BLANKS:
            for text in ("-; 0; " + sign, "-; 0; 1" + sign, "-; 0 " + sign + "; 1", "-; 0" + sign + "2; 1"):
                self.refused(NET, text)

    def test_one_sign_amiss(self):
        # 1 has arrows to 0 and 2 alone, and 2 to 1 alone.
        written = re.compile(r"-; (-|[02]( [02])*); (-|1( 1)*)")
        for text in marred("-; 0 2; 1"):
            if written.fullmatch(text):
                self.assertEqual(show_piles(read_piles(NET, text)), text)
            else:
                self.refused(NET, text)

    def test_numbers_of_many_figures(self):
        for figures in (2, 29, 30, 31, 5000):
            self.refused(NET, "-; 0; 1" + "0" * (figures - 1))

    def test_things_that_are_no_text(self):
        for thing in odd_things():
            self.refused(NET, thing)
            self.refused([[]], thing)

    def test_beyond_the_bounds(self):
        net = [[] for place in range(11)] + [[(10, 1), (11, 1)]]
        self.both(net, "-; " * 11 + "10 11 10", [[] for place in range(11)] + [[10, 11, 10]])

    def test_all_stays_and_is_not_shared(self):
        dice = Dice(53)
        for net in [NET, [[]], [[], []]] + great_nets(1, 8):
            piles = fitting_piles(dice, net, 6)
            check_sharing(self, show_piles, piles)
            check_sharing(self, read_piles, net, show_piles(piles))


class TestTrees(unittest.TestCase):
    def both(self, net, text, tree):
        self.assertEqual(read_tree(net, text), tree)
        self.assertEqual(show_tree(tree), text)
        self.assertIs(type(show_tree(tree)), str)

    def refused(self, net, text):
        check_refused(self, NoText, read_tree, net, text)

    def test_written_and_read(self):
        self.both(NET, "- 0 1", [None, 0, 1])
        self.both(read_net(TEXT), "- 0 1", [None, 0, 1])
        self.both([[]], "-", [None])
        self.both([[], []], "- -", [None, None])
        self.both([[(1, 1)], []], "1 -", [1, None])
        self.both(FULL, "- 2 3 4 5 6 7 0", [None, 2, 3, 4, 5, 6, 7, 0])

    def test_what_is_shown_is_read_again(self):
        for net in small_nets() + great_nets(4, 4):
            for tree in listed_trees(net):
                self.assertEqual(read_tree(net, show_tree(tree)), tree)

    def test_what_is_no_tree_of_the_net(self):
        for text in ("- 2 1", "- 0 0", "- 0 2", "- 1 1", "- 0", "-", "- 0 1 -", "- 0 1 1", "0 0 1", "- - 1", "- 3 1"):
            self.refused(NET, text)
        for words in itertools.product(("-", "0", "1", "2", "3"), repeat=3):
            if words != ("-", "0", "1"):
                self.refused(NET, " ".join(words))
        self.refused([[(0, 1)]], "0")
        self.refused([[(0, 1)]], "-")
        self.refused([[(1, 1)], [(0, 1)]], "1 0")

    def test_what_is_not_written_so(self):
        texts = (
            "", " ", "-; 0; 1", "-;0;1", "-, 0, 1", " - 0 1", "- 0 1 ", "-  0 1", "- 0  1", "-0 1", "- 01", "- 00 1",
            "- 0 01", "- +0 1", "- -0 1", "-- 0 1", "- 0 1*1", "- 0*1 1", "- 0 1\n", "-\n0 1", "-\t0\t1", "- 0 1.0",
            "- 0 1;", "None 0 1", "[None, 0, 1]", "- 0 1_", "- 0 x", "- 0 1 " + "-", "\n- 0 1",
        )
        for text in texts:
            self.refused(NET, text)
        for sign in OTHER_DIGITS + OTHER_BLANKS:
            for text in ("- 0 " + sign, "- 0 1" + sign, sign + "- 0 1", "- 0" + sign + "1", sign + " 0 1"):
                self.refused(NET, text)

    def test_one_sign_amiss(self):
        for text in marred("- 0 1"):
            self.refused(NET, text)

    def test_numbers_of_many_figures(self):
        for figures in (2, 29, 30, 31, 5000):
            self.refused(NET, "- 0 1" + "0" * (figures - 1))

    def test_things_that_are_no_text(self):
        for thing in odd_things() + [[None, 0, 1]]:
            self.refused(NET, thing)
            self.refused([[]], thing)

    def test_beyond_the_bounds(self):
        net = full_net(12, [11])
        self.both(net, "11 " * 10 + "0 -", [11] * 10 + [0, None])

    def test_all_stays_and_is_not_shared(self):
        for net in small_nets():
            for tree in listed_trees(net):
                check_sharing(self, show_tree, tree)
                check_sharing(self, read_tree, net, show_tree(tree))


if __name__ == "__main__":
    unittest.main()
