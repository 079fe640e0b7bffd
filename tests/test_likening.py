"""Point [3]: keys and how they are likened."""

import os.path
import string

from mergetree.likening import alike, is_key, liken, liken_from
from tests.helper import OTHER_KINDS, Case, nested, small_keys

# One, other, how far alike, order.
PAIRS = [
    ("", "", 0, 0),
    ("", "a", 0, -1),
    ("", "zzz", 0, -1),
    ("a", "a", 1, 0),
    ("a", "b", 0, -1),
    ("a", "z", 0, -1),
    ("a", "aa", 1, -1),
    ("ab", "abc", 2, -1),
    ("ab", "b", 0, -1),
    ("abc", "abd", 2, -1),
    ("abcz", "abd", 2, -1),
    ("abz", "acbbbb", 1, -1),
    ("az", "b", 0, -1),
    ("abcabc", "abcabc", 6, 0),
    ("abxcd", "abycd", 2, -1),
    ("zzzz", "zzzzz", 4, -1),
    ("m" * 40, "m" * 40, 40, 0),
    ("m" * 39 + "a", "m" * 39 + "b", 39, -1),
    ("m" * 39, "m" * 40, 39, -1),
    ("m" * 45, "m" * 50, 45, -1),
]

NO_LETTERS = list(" -_\n\t\r.,:;/\\'\"`{@[|~") + list(string.digits + string.ascii_uppercase) + [
    "\x00", "\x7f", "\u00e4", "\u00df", "\u00e9", "\u0430", "\uff41", "\u2028", "\U0001d41a"]


def both_ways(pairs):
    """The pairs, and each the other way about."""
    return pairs + [(other, one, far, -order) for one, other, far, order in pairs]


class IsKeyTest(Case):
    def test_letters(self):
        for text in ["", string.ascii_lowercase, "zyx", "aaaa", "key"] + list(string.ascii_lowercase):
            self.told(is_key(text), True)

    def test_any_many_letters(self):
        for many in (1, 2, 39, 40, 41, 60, 61, 1000, 20000):
            self.told(is_key("q" * many), True)

    def test_another_sign_at_any_place(self):
        for sign in NO_LETTERS:
            for word in ("", "a", "az", "mergetree"):
                for at in range(len(word) + 1):
                    text = word[:at] + sign + word[at:]
                    self.assertIs(is_key(text), False, repr(text))

    def test_another_sign_far_behind(self):
        self.told(is_key("a" * 5000 + "A"), False)
        self.told(is_key("a" * 5000 + "\n"), False)

    def test_words_of_other_meaning_are_texts_all_the_same(self):
        self.told(is_key("none"), True)
        self.told(is_key("true"), True)
        self.told(is_key("None"), False)
        self.told(is_key("-"), False)

    def test_other_kinds(self):
        for thing in OTHER_KINDS:
            self.assertIs(is_key(thing), False, repr(thing))

    def test_nested_twenty_deep(self):
        for core in ("", "a", None, 0):
            for kind in (list, tuple):
                for depth in (1, 2, 19, 20):
                    self.told(is_key(nested(depth, core, kind)), False)

    def test_nothing_is_changed(self):
        for thing in OTHER_KINDS + ["", "key", "Key"]:
            self.keeps(is_key, thing)


class AlikeTest(Case):
    def test_pairs_both_ways(self):
        for one, other, far, order in both_ways(PAIRS):
            self.assertEqual(repr(alike(one, other)), repr(far), (one, other))

    def test_all_small_keys(self):
        keys = small_keys("amz", 3)
        for one in keys:
            for other in keys:
                self.told(alike(one, other), len(os.path.commonprefix([one, other])))

    def test_alike_behind_an_unlike_place_counts_nothing(self):
        self.told(alike("axbbb", "aybbb"), 1)
        self.told(alike("xbbb", "ybbb"), 0)


class LikenTest(Case):
    def test_pairs_both_ways(self):
        for one, other, far, order in both_ways(PAIRS):
            self.assertEqual(repr(liken(one, other)), repr(order), (one, other))

    def test_all_small_keys(self):
        keys = small_keys("amz", 3)
        for one in keys:
            for other in keys:
                self.told(liken(one, other), int(one > other) - int(one < other))

    def test_each_letter_with_each(self):
        for at, one in enumerate(string.ascii_lowercase):
            for on, other in enumerate(string.ascii_lowercase):
                self.told(liken("k" + one, "k" + other), int(at > on) - int(at < on))

    def test_like_keys_that_are_two_texts(self):
        self.told(liken("".join(["a", "b"]), "".join(["ab", ""])), 0)


class LikenFromTest(Case):
    def from_each_place(self, one, other, far, order):
        for known in range(far + 1):
            wanted = (order, far, far - known + 1)
            self.assertEqual(repr(liken_from(one, other, known)), repr(wanted), (one, other, known))

    def test_pairs_both_ways_from_each_place(self):
        for one, other, far, order in both_ways(PAIRS):
            self.from_each_place(one, other, far, order)

    def test_all_small_keys_from_each_place(self):
        keys = small_keys("amz", 3)
        for one in keys:
            for other in keys:
                far = len(os.path.commonprefix([one, other]))
                self.from_each_place(one, other, far, int(one > other) - int(one < other))

    def test_one_look_where_both_end(self):
        self.told(liken_from("", "", 0), (0, 0, 1))
        self.told(liken_from("abc", "abc", 3), (0, 3, 1))
        self.told(liken_from("abc", "abc", 0), (0, 3, 4))

    def test_one_look_where_one_ends(self):
        self.told(liken_from("abc", "ab", 2), (1, 2, 1))
        self.told(liken_from("ab", "abc", 2), (-1, 2, 1))
        self.told(liken_from("", "abc", 0), (-1, 0, 1))

    def test_asked_again_the_same_is_told(self):
        for ask, handed in ((alike, ("ab", "ac")), (liken, ("ab", "ac")), (liken_from, ("ab", "ac", 1))):
            self.keeps(ask, *handed)
