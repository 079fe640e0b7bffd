"""Points [15] and [16]: sheets."""

import random
import re

from mergetree.errors import BadLine, MergeError
from mergetree.sheet import run
from tests.helper import Case, Played, least_prices, played_free, played_runs, some_row

KEY = "(?:[a-z]{1,40}|-)"
NAME = "[a-z]{1,8}"
ROOM = "(?:[1-9]|1[0-6])"
SIZE = "(?:0|[1-9][0-9]{0,8})"

# A row that is so written, by the words of point [15].
WRITTEN = re.compile("|".join([
    f"row {NAME}(?: {KEY})*", f"grow {NAME}(?: {KEY})*", f"drop {NAME}", "coming",
    "take (?:0|[1-9][0-9]{0,5}|1000000)", "left", "counts", "rows", f"runs {ROOM}(?: {KEY})*",
    f"sort {ROOM} [2-6](?: {KEY})*", f"(?:free|near) [2-6](?: {SIZE}){{1,12}}"]))

# One row of each kind, with and without what may be left out.
RIGHT = [
    "row a", "row ab b - ba", "grow a", "grow ab - a b", "drop a", "coming", "take 12", "left", "counts", "rows",
    "runs 2", "runs 2 b a -", "sort 2 3", "sort 2 3 b a -", "free 2 3 0 17", "near 2 3 0 17",
]


def bad_line(text):
    """The line of the first row that isn't so written, None where there is none."""
    rows = text.split("\n")
    return next((at for at, row in enumerate(rows) if row and not WRITTEN.fullmatch(row)), None)


class PlayedSheet:
    """A sheet by the words of points [15] and [16], over the merge played by those of [6] to [8]."""

    def __init__(self):
        self.played = Played([])
        self.rows = {}

    def answers(self, text):
        return [self.answer(*row.split(" ")) for row in text.split("\n") if row]

    def answer(self, word, *others):
        if word in ("row", "grow", "drop"):
            return self.deed(word, others[0], self.keys(others[1:]))
        if word == "coming":
            return self.things([self.played.state()[0]] if self.played.state()[0] else [])
        if word == "take":
            # No more than there are, as the rest would be walked one by one.
            return self.things(self.played.take_few(min(int(others[0]), self.played.state()[1])))
        if word == "left":
            return str(self.played.state()[1])
        if word == "counts":
            return f"{self.played.likenings} {self.played.looks}"
        if word == "rows":
            return " ".join(self.called(row) + ":" + ("." if key is None else key or "-")
                            for row, key in self.played.state()[2]) or "-"
        if word == "runs":
            runs = played_runs(self.keys(others[1:]), int(others[0]))
            return " ; ".join(" ".join(map(str, numbers)) for numbers in runs) or "-"
        if word == "sort":
            keys = self.keys(others[2:])
            return " ".join(map(str, sorted(range(len(keys)), key=lambda number: (keys[number], number)))) or "-"
        ways, sizes = int(others[0]), [int(size) for size in others[1:]]
        return str(played_free(sizes, ways)[0] if word == "free" else least_prices(sizes, ways)[len(sizes) - 1][2])

    def deed(self, word, name, keys):
        if (name in self.rows) == (word == "row"):
            return "refused"
        if word == "drop":
            self.played.drop_row(self.rows.pop(name))
            return "done"
        told = self.played.add_row(keys) if word == "row" else self.played.grow(self.rows[name], keys)
        if isinstance(told, tuple):
            return "refused"
        if word == "row":
            self.rows[name] = told
        return "done"

    def keys(self, words):
        return ["" if word == "-" else word for word in words]

    def called(self, number):
        return [name for name, row in self.rows.items() if row == number][0]

    def things(self, things):
        return " ".join(self.called(row) + ":" + (key or "-") for row, place, key in things) or "-"


def some_word(source):
    """A row that is so written."""
    keys = [key or "-" for key in some_row(source, 4, "ab", 3)]
    if source.randint(0, 3) == 0:
        source.shuffle(keys)
    name = source.choice(("a", "b", "c", "names", "eighteen"))
    word = source.choice("row row row grow grow drop coming take take left counts rows runs sort free near".split())
    if word in ("row", "grow"):
        return " ".join([word, name] + keys)
    if word == "drop":
        return f"drop {name}"
    if word == "take":
        return f"take {source.choice((0, 1, 1, 2, 3, 1000000))}"
    if word == "runs":
        return " ".join(["runs", str(source.randint(1, 16))] + keys[::-1])
    if word == "sort":
        return " ".join(["sort", str(source.randint(1, 16)), str(source.randint(2, 6))] + keys[::-1])
    if word in ("free", "near"):
        sizes = [str(source.choice((0, 1, 7, 999999999))) for at in range(source.randint(1, 6))]
        return " ".join([word, str(source.randint(2, 6))] + sizes)
    return word


class SheetTest(Case):
    def runs(self, text, *answers):
        self.told(run(text), list(answers))

    def bad(self, text, line):
        with self.assertRaises(BadLine) as caught:
            run(text)
        self.told(caught.exception.line, line)
        self.assertIsInstance(caught.exception, MergeError)

    def takes(self, *rows):
        """Each row is so written."""
        for row in rows:
            self.assertEqual(len(run(row)), 1, row)

    def bads(self, *rows):
        """None of the rows is so written."""
        for row in rows:
            with self.assertRaises(BadLine, msg=repr(row)) as caught:
                run(row)
            self.told(caught.exception.line, 0)


class FormTest(SheetTest):
    def test_the_empty_sheet(self):
        for text in ("", "\n", "\n\n\n"):
            self.runs(text)

    def test_rows_without_signs_are_passed_over(self):
        self.runs("left", "0")
        self.runs("left\n", "0")
        self.runs("\n\nleft\n\n\nleft\n\n", "0", "0")

    def test_rows_without_signs_are_counted(self):
        self.bad("\n\nleft\n\nwrong\n", 4)
        self.bad("wrong", 0)
        self.bad("\nwrong", 1)
        self.bad("left\n ", 1)

    def test_blanks(self):
        self.bads(" ", "  ", " left", "left ", "  left", "left  ")
        for row in RIGHT:
            self.takes(row)
            self.bads(" " + row, row + " ", "  " + row, row + "  ")
            for at, sign in enumerate(row):
                if sign == " ":
                    self.bads(row[:at] + " " + row[at:], row[:at] + "\t" + row[at + 1:])

    def test_other_signs(self):
        for row in RIGHT:
            self.bads(row + "\t", row + "\r", row + "\x00", "\ufeff" + row, row + "\u00a0", row.upper(), row + ".")
        self.bad("left\r\nleft", 0)
        self.bads("\t", "\r", "\x0b", "\x0c", "\u2028", "#", "-", ".", ":")

    def test_words_that_are_none(self):
        self.bads("rwo a", "rows a", "Row a", "ROW a", "add a", "take", "drop", "row", "grow", "runs", "sort", "sort 1",
                  "free", "near", "free 2", "near 2", "a", "0", "-", "done", "refused", "look", "looks", "count",
                  "likenings", "heads", "merge", "twin", "name", "key", "many", "size")

    def test_words_too_many(self):
        self.bads("coming a", "coming 0", "take 1 1", "take 1 a", "left 0", "left a", "counts 1", "counts a", "rows 1",
                  "drop a b", "drop a -", "coming -", "left -")

    def test_names(self):
        for word in ("row", "grow", "drop"):
            self.takes(f"{word} a", f"{word} z", f"{word} abcdefgh", f"{word} row", f"{word} zzzzzzzz")
            for name in ("abcdefghi", "a" * 40, "", "A", "aB", "a1", "1", "-", "a-", "a_b", ".", "a:", "\u00e4"):
                self.bads(f"{word} {name}")
        for word in ("row", "grow"):
            self.bads(f"{word} - a", f"{word} abcdefghi a", f"{word} A a")

    def test_keys(self):
        for ahead in ("row a", "grow a", "runs 1", "sort 1 2"):
            self.takes(f"{ahead} a", f"{ahead} -", f"{ahead} {'k' * 40}", f"{ahead} - - a {'z' * 40}", ahead)
            for key in ("k" * 41, "--", "a-", "-a", "A", "a1", "", "a  b", "a ", ".", "a b C", "\u00e9", "a,b", "a:b",
                        "`", "{", "'", "a " + "k" * 41):
                self.bads(f"{ahead} {key}")

    def test_many_keys(self):
        for many in (59, 60, 61):
            self.runs(f"row a{' k' * many}\nleft", "done", str(many))
            self.runs(f"sort 1 2{' k' * many}", " ".join(str(at) for at in range(many)))
            self.runs(f"runs 1{' k' * many}", " ".join(str(at) for at in range(many)))

    def test_room(self):
        for ahead, behind in (("runs", ""), ("sort", " 2")):
            for room in range(1, 17):
                self.takes(f"{ahead} {room}{behind}", f"{ahead} {room}{behind} b a")
            for room in ("0", "17", "18", "160", "01", "016", "-1", "+1", "a", "", "-", "1.0", "1e1", "1_0", "\u0661",
                         "\u00b2", "999999999", "1000000000"):
                self.bads(f"{ahead} {room}{behind}", f"{ahead} {room}{behind} b a")

    def test_ways(self):
        for ahead, behind in (("sort 1", ""), ("sort 1", " b a"), ("free", " 1 2"), ("near", " 1 2")):
            for ways in range(2, 7):
                self.takes(f"{ahead} {ways}{behind}")
            for ways in ("0", "1", "7", "8", "20", "02", "-2", "+2", "a", "", "-", "\u0662", "999999999", "1000000000"):
                self.bads(f"{ahead} {ways}{behind}")

    def test_sizes(self):
        for ahead in ("free 2", "near 2"):
            for size in ("0", "1", "9", "10", "100000000", "999999999"):
                self.takes(f"{ahead} {size}", f"{ahead} 1 {size}", f"{ahead} {size} 1")
            for size in ("00", "01", "0999", "1000000000", "9999999999", "0000000001", "-1", "-0", "+1", "+0", "a", "",
                         "-", "1a", "a1", "1.0", "1e3", "1_000", "\u0661", "\u00b2", "0x1", " 1", "1 "):
                self.bads(f"{ahead} {size}", f"{ahead} 1 {size}", f"{ahead} {size} 1")
            for many in range(1, 13):
                self.takes(ahead + " 1" * many)
            self.bads(ahead, ahead + " 1" * 13, ahead + " 1" * 14, ahead + " 0" * 13)

    def test_how_many(self):
        for many in ("0", "1", "9", "10", "60", "999999", "1000000"):
            self.takes(f"take {many}")
        for many in ("1000001", "1000010", "2000000", "10000000", "999999999", "1000000000", "00", "01", "-1", "+1",
                     "a", "", "-", "1.0", "1e3", "\u0661"):
            self.bads(f"take {many}")

    def test_numbers_of_very_many_figures(self):
        for figures in ("9" * 3000, "1" + "0" * 3900, "9" * 5000, "0" * 5000):
            self.bads(f"take {figures}", f"runs {figures}", f"sort 1 {figures}", f"near {figures} 1")
            self.bads(f"free 2 {figures}", f"near 2 1 {figures}")

    def test_the_first_bad_row_ahead_of_all_answers(self):
        self.bad("left\nwrong\nworse", 1)
        self.bad("row a b\nrow a\ndrop b\ngrow c\nwrong", 4)
        self.bad("row a b a\nrow a b a\nrow a  b\nwrong", 2)
        self.bad("\nrow a\n\nrow A\nrow a", 3)
        self.bad("\n".join(["left"] * 59 + ["take 1000001"]), 59)

    def test_a_row_changed_by_one_sign(self):
        signs = " -az019A:.\t\r"
        for row in RIGHT:
            for at in range(len(row) + 1):
                changed = [row[:at] + sign + row[at:] for sign in signs]
                changed += [row[:at] + sign + row[at + 1:] for sign in signs] + [row[:at] + row[at + 1:]]
                for text in changed:
                    wanted = bad_line(text)
                    if wanted is None:
                        self.told(run(text), PlayedSheet().answers(text))
                    else:
                        self.bads(text)

    def test_right_and_wrong_rows_mixed(self):
        source = random.Random(16)
        for time in range(400):
            rows = [source.choice(("", some_word(source), some_word(source))) for at in range(12)]
            for change in range(source.randint(0, 2)):
                at = source.randrange(12)
                place = source.randint(0, len(rows[at]))
                rows[at] = rows[at][:place] + source.choice(" -a0A\t") + rows[at][place:]
            text = "\n".join(rows)
            if bad_line(text) is None:
                self.told(run(text), PlayedSheet().answers(text))
            else:
                self.bad(text, bad_line(text))


class RowsTest(SheetTest):
    def test_a_row_comes(self):
        self.runs("row a\nrows", "done", "a:.")
        self.runs("row a b c\nrows\nleft", "done", "a:b", "2")
        self.runs("row a -\nrows", "done", "a:-")
        self.runs("row b x\nrow a y\nrows", "done", "done", "b:x a:y")

    def test_a_name_that_is_there_already(self):
        self.runs("row a b\nrow a c\nrows\nleft", "done", "refused", "a:b", "1")
        self.runs("row a\nrow a\nrows", "done", "refused", "a:.")
        # All of the row has gone out, but the row is there.
        self.runs("row a b\ntake 1\nrow a c\nrows", "done", "a:b", "refused", "a:.")

    def test_a_name_whose_row_is_gone(self):
        self.runs("row a b\nrow c d\ndrop a\nrow a e\nrows", "done", "done", "done", "done", "c:d a:e")
        self.runs("row a b\ndrop a\ngrow a c\ndrop a\nrows", "done", "done", "refused", "refused", "-")
        self.runs("row a b\ndrop a\nrow a z\ngrow a zz\ntake 9", "done", "done", "done", "done", "a:z a:zz")

    def test_keys_out_of_order(self):
        self.runs("row a b a\nrows\nrow a b\nrows", "refused", "-", "done", "a:b")
        self.runs("row a b -", "refused")
        self.runs("row a ab a", "refused")
        self.runs("row a - a a ab b", "done")

    def test_a_seventeenth_row(self):
        names = "abcdefghijklmnop"
        sixteen = "\n".join(f"row {name} {name}" for name in names)
        done = ["done"] * 16
        self.runs(sixteen + "\nrow q q\nleft\nrow q\ncounts", *done, "refused", "16", "refused", counted(names))
        self.runs(sixteen + "\ndrop d\nrow q q\nrow r\nleft", *done, "done", "done", "refused", "16")
        # A row that has nothing left is there still.
        self.runs(sixteen + "\ntake 16\nrow q q\nrows", *done, " ".join(f"{name}:{name}" for name in names), "refused",
                  " ".join(f"{name}:." for name in names))

    def test_rows_over_the_time(self):
        rows = "\n".join(f"row a {'b' * (at % 40 + 1)}\ntake 1\ndrop a" for at in range(45))
        answers = [answer for at in range(45) for answer in ("done", "a:" + "b" * (at % 40 + 1), "done")]
        self.runs(rows, *answers)

    def test_grow(self):
        self.runs("grow a b", "refused")
        self.runs("grow a", "refused")
        self.runs("row a b\ngrow a b c\ntake 9", "done", "done", "a:b a:b a:c")
        self.runs("row a b\ngrow a\nleft", "done", "done", "1")
        self.runs("row a b\ngrow a a\nleft\ngrow a c b\nleft", "done", "refused", "1", "refused", "1")
        self.runs("row a\ngrow a -\nrows", "done", "done", "a:-")
        # What has gone out stands ahead still.
        self.runs("row a b\ntake 1\ngrow a a\ngrow a b\ntake 2", "done", "a:b", "refused", "done", "a:b")

    def test_drop(self):
        self.runs("drop a", "refused")
        self.runs("row a b\ndrop a\ndrop a\nleft\nrows", "done", "done", "refused", "0", "-")
        self.runs("row a b\nrow c d\ndrop a\ntake 9", "done", "done", "done", "c:d")

    def test_a_refused_row_changes_nothing(self):
        ahead = "row a b d\nrow c a c\nrow e\ntake 1\n"
        asks = "coming\nleft\ncounts\nrows\n"
        wanted = run(ahead + asks)[4:]
        for refused in ("row a", "row a z", "row x b a", "grow x", "grow x a", "grow a c", "grow a e d", "grow c b",
                        "drop x", "grow e b a"):
            self.runs(ahead + asks + refused + "\n" + asks + refused + "\n" + asks,
                      *run(ahead), *wanted, "refused", *wanted, "refused", *wanted)
            self.told(run(ahead + refused + "\ntake 99\ncounts")[-2:], run(ahead + "take 99\ncounts")[-2:])


def counted(names):
    """Likenings and looks behind rows of one key each that come one by one."""
    played = Played([])
    for name in names:
        played.add_row([name])
    return f"{played.likenings} {played.looks}"


class AsksTest(SheetTest):
    def test_of_an_empty_desk(self):
        self.runs("coming\ntake 0\ntake 5\nleft\ncounts\nrows", "-", "-", "-", "0", "0 0", "-")

    def test_of_rows_without_keys(self):
        self.runs("row a\nrow b\ncoming\ntake 3\nleft\ncounts\nrows", "done", "done", "-", "-", "0", "0 0", "a:. b:.")

    def test_coming(self):
        self.runs("row a b\nrow c a\ncoming\ncoming\nleft", "done", "done", "c:a", "c:a", "2")
        self.runs("row a -\ncoming", "done", "a:-")
        self.runs("row a b\ntake 1\ncoming", "done", "a:b", "-")

    def test_like_keys_by_the_row_that_came_first(self):
        self.runs("row z k\nrow a k k\ntake 3", "done", "done", "z:k a:k a:k")
        self.runs("row a k\nrow b k\ndrop a\nrow a k\ntake 3\nrows",
                  "done", "done", "done", "done", "b:k a:k", "b:. a:.")

    def test_take(self):
        rows = "row a b d\nrow c a c\n"
        self.runs(rows + "take 0\nleft", "done", "done", "-", "4")
        self.runs(rows + "take 1\ntake 2\ntake 1\ntake 1", "done", "done", "c:a", "a:b c:c", "a:d", "-")
        self.runs(rows + "take 4\nleft", "done", "done", "c:a a:b c:c a:d", "0")
        self.runs(rows + "take 1000000\ntake 1000000", "done", "done", "c:a a:b c:c a:d", "-")

    def test_counts(self):
        # One likening with one look as c comes, one more as c's a goes out.
        self.runs("row a b\ncounts\nrow c a c\ncounts\ntake 1\ncounts", "done", "0 0", "done", "1 1", "c:a", "2 2")
        self.runs("row a ab\nrow c abc\ncounts\ntake 2\ncounts", "done", "done", "1 3", "a:ab c:abc", "1 3")

    def test_runs(self):
        self.runs("runs 1\nruns 16", "-", "-")
        self.runs("runs 1 a", "0")
        self.runs("runs 1 c b a", "0 ; 1 ; 2")
        self.runs("runs 2 c a b a d", "1 2 0 4 ; 3")
        self.runs("runs 3 c a b -", "1 2 0 ; 3")
        self.runs("runs 16 c a b -", "3 1 2 0")

    def test_sort(self):
        self.runs("sort 1 2\nsort 16 6", "-", "-")
        self.runs("sort 1 2 a", "0")
        self.runs("sort 1 2 c b a -", "3 2 1 0")
        self.runs("sort 2 3 b a b a", "1 3 0 2")

    def test_free_and_near(self):
        self.runs("free 2 7\nnear 2 7", "0", "0")
        self.runs("free 2 0 0 0\nnear 2 0 0 0", "0", "0")
        self.runs("free 2 1 5 1\nnear 2 1 5 1", "9", "13")
        self.runs("free 3 1 5 1\nnear 3 1 5 1", "7", "7")
        self.runs("free 3 5 1 2 9 3\nnear 2 4 1 3 2", "26", "20")
        twelve = " 999999999" * 12
        self.runs(f"free 2{twelve}\nnear 6{twelve}", str(44 * 999999999), str(20 * 999999999))

    def test_asks_leave_the_desk_as_it_is(self):
        rows = "row a b d\nrow c a c\n"
        asks = "coming\nleft\ncounts\nrows\nruns 2 b a\nsort 2 2 b a\nfree 2 1 2\nnear 2 1 2\ntake 0\n"
        answers = run(rows + asks * 3)[2:]
        self.told(answers, answers[:9] * 3)
        self.told(run(rows + asks + "take 9\ncounts")[-2:], run(rows + "take 9\ncounts")[-2:])

    def test_mixed_sheets_by_the_words(self):
        source = random.Random(17)
        for time in range(500):
            text = "\n".join(some_word(source) for at in range(source.randint(1, 40)))
            self.told(run(text), PlayedSheet().answers(text))

    def test_many_rows_by_the_words(self):
        source = random.Random(18)
        for time in range(60):
            names = [chr(ord("a") + at) * source.randint(1, 8) for at in range(18)]
            rows = [" ".join(["row", name] + [key or "-" for key in some_row(source, 3)]) for name in names]
            for at in range(30):
                rows.insert(source.randint(0, len(rows)), source.choice((
                    "take 1", "take 2", "rows", "counts", "coming", f"drop {source.choice(names)}",
                    f"grow {source.choice(names)} b bb", "row late bb")))
            self.told(run("\n".join(rows)), PlayedSheet().answers("\n".join(rows)))


class KeptTest(SheetTest):
    def test_each_sheet_has_a_desk_of_its_own(self):
        text = "row a b c\ntake 1\nrows\ncounts"
        first = run(text)
        self.told(run(text), first)
        self.runs("rows\nleft", "-", "0")
        with self.assertRaises(BadLine):
            run("row a b\nwrong")
        self.runs("row a b\nrows", "done", "a:b")

    def test_the_told_list_is_the_askers_own(self):
        for text in ("", "left", "row a b c\nrow d\nrows\ntake 1\ndrop a\nrows\nruns 1 b a\nsort 1 2 b a"):
            self.keeps(run, text)
