import copy
import itertools

from tests.helpers import MILLION, OTHER_KINDS, ToldCase, mixed, wrong_rests
from wheelrow.errors import BadRests, BadText
from wheelrow.texts import read, written

SOME = (
    ([], "-"),
    ([(0, 1)], "0:1"),
    ([(2, 3)], "2:3"),
    ([(0, 10)], "0:10"),
    ([(999999, 1000000)], "999999:1000000"),
    ([(2, 3), (3, 5), (2, 7)], "2:3 3:5 2:7"),
    ([(0, 1), (0, 1), (0, 1000000), (100, 101)], "0:1 0:1 0:1000000 100:101"),
)

# Besides these, what is_so_written below doesn't take of all short texts.
WRONG_TEXTS = (
    "", " ", "  ", "\n", ":", "::", "0", "1", "12",
    "- ", " -", "--", "- -", "-\n", "- 0:1", "0:1 -", "0:1 - 0:1", "-0:1", "-:1", "0:-",
    "00:1", "0:01", "01:2", "1:02", "000:7", "0:0000001", "0:1000000000", "0:00000001",
    " 0:1", "0:1 ", "0:1  0:1", "0 :1", "0: 1", "0:1 1:2 ", " 0:1 1:2", "0:1   1:2",
    "01", "0:1:", ":0:1", "0::1", "0:1:2", "1:2:3", ":1", "0:", "0:1 1", "0:1 1:", "0:1 :2", "0:11:2",
    "+0:1", "0:+1", "-0:1", "-1:2", "1:-2", "0:1 +1:2", "1-:2",
    "0:1\n", "\n0:1", "0:1\n1:2", "0:1 \n1:2", "0\n:1", "0:\n1", "0:1\r", "0:1\r\n",
    "0:1\t", "\t0:1", "0:1\t1:2", "0\t:1", "0:\t1", "0:1\x00", "0:1\x0b", "0:1\x0c", "0:1\x1c1:2", "0:1\x7f",
    "1_0:20", "0:1_0", "_1:2", "1:2_", "0:1_000_000",
    "1:1", "2:1", "5:5", "6:5", "1000000:1000000", "999999:999999", "0:1 3:3", "3:3 0:1", "0:1 3:3 0:1",
    "0:0", "1:0", "0:1 0:0", "0:1000001", "1000001:1000002", "0:9999999", "0:10000000", "0:1 0:1000001 0:1",
    "0.0:1", "0:1.0", "1e0:2", "0x1:2", "0:1,1:2", "0:1;1:2", "0/1", "0;1", "a:b", "0:1a", "a0:1", "[(0, 1)]", "0:1 x",
    "1" * 8 + ":2", "0:" + "1" * 8,
)


def is_so_written(text):
    """Told another way than in the program: as the words of all small rests that could make up a short text."""
    return text == "-" or all(word in SHORT_WORDS for word in text.split(" "))


SHORT_WORDS = {f"{rest}:{turn}" for turn in range(1, 1000) for rest in range(min(turn, 100))}


class WrittenTest(ToldCase):
    def test_some(self):
        for rests, text in SOME:
            self.assertEqual(written(rests), text)
            self.assertIs(type(written(rests)), str)

    def test_refused(self):
        for wrong in wrong_rests():
            self.refused(BadRests, written, wrong)


class ReadTest(ToldCase):
    def test_some(self):
        for rests, text in SOME:
            self.assertEqual(read(text), rests)

    def test_kinds(self):
        for rests, text in SOME:
            told = read(text)
            self.assertIs(type(told), list)
            for pair in told:
                self.assertIs(type(pair), tuple)
                self.assertEqual([type(value) for value in pair], [int, int])

    def test_what_is_written_is_read_back(self):
        for turn in list(range(1, 40)) + [99, 100, 101, 999, 1000, 99999, 100000, 999999, MILLION]:
            for rest in {0, turn // 10, turn // 2, turn - 1}:
                self.assertEqual(read(written([(rest, turn)])), [(rest, turn)])
        turns = [1 + turn for turn in mixed(3000, MILLION)]
        rests = [(rest % turn, turn) for rest, turn in zip(mixed(3000, MILLION, seed=2), turns)]
        self.assertEqual(read(written(rests)), rests)

    def test_wrong_texts(self):
        for text in WRONG_TEXTS:
            with self.subTest(text=text):
                self.refused(BadText, read, text)

    def test_very_long_runs_of_figures(self):
        for count in (8, 100, 4300, 4301, 20000):
            for figure in "019":
                run = figure * count
                for text in (run, run + ":1", "0:" + run, run + ":" + run, "0:1 " + run + ":1", "0:1 0:" + run):
                    self.refused(BadText, read, text)
                self.refused(BadText, read, "1" + run + ":1" + run)

    def test_all_short_texts(self):
        for count in range(6):
            for signs in itertools.product("012: -", repeat=count):
                text = "".join(signs)
                if is_so_written(text):
                    self.assertEqual(written(read(text)), text)
                else:
                    self.refused(BadText, read, text)

    def test_each_sign_in_each_place(self):
        good = "10:12 3:4"
        for place in range(len(good) + 1):
            for sign in [chr(code) for code in range(127)]:
                for text in (good[:place] + sign + good[place:], good[:place] + sign + good[place + 1:]):
                    if is_so_written(text):
                        self.assertEqual(written(read(text)), text)
                    else:
                        self.refused(BadText, read, text)

    def test_what_is_no_text(self):
        no_texts = tuple(value for value in OTHER_KINDS if not isinstance(value, str))
        for wrong in no_texts + (True, False, 0, 1, [], ["0:1"], ["-"], [(0, 1)], (), ("0:1",), (0, 1), b"0:1", b"-"):
            self.refused(BadText, read, wrong)


class KeptNothingTest(ToldCase):
    def test_rests_stay(self):
        for rests, text in SOME:
            given = copy.deepcopy(rests)
            self.assertEqual(written(given), text)
            self.assertEqual(given, rests)
            given.append((1, 3))
            self.assertEqual(written(rests), text)

    def test_what_is_read_is_new(self):
        for rests, text in SOME:
            told = read(text)
            told.append(None)
            told[0] = 7
            self.assertEqual(read(text), rests)
