import copy
import itertools
import random
import unittest

from noisebound.book import Book, audit, first_difference, replay
from noisebound.bounds import always_comes_back, noise_bound, noise_terms, room
from noisebound.exchange import key_and_randomness, make_keys, receive_report, send
from noisebound.noise import lost_places, noise_row
from noisebound.parameters import parameter_fault, published, set_of
from tests.sets import ALWAYS, NOISY, PUBLISHED, SMALL
from tests.test_script import SHAPES, read_by_rule, shape_fault_by_rule
from tests.tools import ANY_PAPERS, ProgramTest, bent_papers, refusal, spoil

SET_LINE = "set a 8 97 33 1 1 1 7 4"
# A row of each kind, and names for what each line may name.
LINES = (
    SET_LINE, "set b 8 17 9 2 3 1 4 5", "set c 8 97 33 1 1 1 7 4", "keys k a 1 2", "keys k2 b 3 4", "keys k3 c 1 2",
    "letter l k 200", "letter l2 k2 201", "turn t l 3 255", "turn tt t 0 7", "receive r k l", "receive rt k tt",
    "receive r2 k2 l2", "noise n l", "noise n2 l2", "bounds u a", "bounds u2 b",
)
DEMANDS = ("n", "q", "root", "k", "secret_width", "noise_width", "u_width", "v_width")
TOP = 2 ** 256


def named(numbers):
    return dict(zip(DEMANDS, numbers))


class BookModel:
    """A book as [86] to [89] tell it, over the functions of the modules before."""

    def __init__(self):
        self.rows, self.undone = [], []

    def entries(self):
        return {line.split(" ")[1]: (line, entry) for line, entry in self.rows}

    def set_behind(self, name):
        """The set to which an entry belongs."""
        line, entry = self.entries()[name]
        return set_of(entry[1]) if entry[0] == "set" else self.set_behind(entry[1])

    def entry_fault(self, name, kinds):
        found = self.entries().get(name)
        if found is None:
            return "missing"
        return None if found[1][0] in kinds else "kind"

    def word_faults(self, words):
        """Pairs (fault or None, place), in the order in which they are looked at; later ones only if the earlier are None."""
        kind, name, rest = words[0], words[1], words[2:]
        yield ("taken" if name in self.entries() else None, 1)
        if kind == "published":
            yield (None if rest[0] in ("ML-KEM-512", "ML-KEM-768", "ML-KEM-1024") else "missing", 2)
        if kind in ("keys", "bounds"):
            yield (self.entry_fault(rest[0], ("set",)), 2)
        if kind == "keys":
            yield ("range" if rest[1] >= TOP else None, 3)
            yield ("range" if rest[2] >= TOP else None, 4)
        if kind in ("letter", "receive"):
            yield (self.entry_fault(rest[0], ("keys",)), 2)
        if kind == "letter":
            yield ("range" if rest[1] >= 2 ** self.set_behind(rest[0]).n else None, 3)
        if kind == "turn":
            yield (self.entry_fault(rest[0], ("letter", "turned")), 2)
            yield ("range" if rest[1] >= len(self.entries()[rest[0]][1][2]) else None, 3)
            yield ("range" if rest[2] > 255 else None, 4)
        if kind == "receive":
            yield (self.entry_fault(rest[1], ("letter", "turned")), 3)
            yield (None if self.set_behind(rest[0]).numbers == self.set_behind(rest[1]).numbers else "set", 3)
        if kind == "noise":
            yield (self.entry_fault(rest[0], ("letter",)), 2)
        if kind == "set":
            demand = parameter_fault(**named(rest))
            yield (None, 0) if demand is None else ("parameters", 2 + DEMANDS.index(demand))

    def fault(self, line):
        shape = shape_fault_by_rule(line)
        if shape is not None:
            return shape
        for fault, place in self.word_faults(read_by_rule(line)):
            if fault is not None:
                return (fault, place)
        return None

    def entry(self, line):
        words = read_by_rule(line)
        kind, first = words[0], words[2]
        if kind == "set":
            return ("set", words[2:])
        if kind == "published":
            return ("set", published(first).numbers)
        params = self.set_behind(first)
        if kind == "bounds":
            told = (noise_terms(params), noise_bound(params), room(params), always_comes_back(params))
            return ("bounds", first, *told)
        if kind == "keys":
            return ("keys", first, *make_keys(params, *[list(number.to_bytes(32, "little")) for number in words[3:]]))
        before = self.entries()[first][1]
        if kind == "letter":
            key, letter = send(params, before[2], list(words[3].to_bytes(params.n // 8, "little")))
            return ("letter", first, letter, key)
        if kind == "turn":
            return ("turned", first, [*before[2][:words[3]], words[4], *before[2][words[3] + 1:]])
        if kind == "receive":
            _, _, key, word = receive_report(params, before[3], self.entries()[words[3]][1][2])
            return ("found", first, words[3], key, word)
        return ("noise", first, *self.noise_of(params, read_by_rule(self.entries()[first][0])))

    def noise_of(self, params, letter_words):
        line, entry = self.entries()[letter_words[2]]
        message = list(letter_words[3].to_bytes(params.n // 8, "little"))
        randomness = key_and_randomness(params, entry[2], message)[1]
        row = noise_row(params, list(read_by_rule(line)[3].to_bytes(32, "little")), message, randomness)
        return (row, lost_places(params, message, row))

    def run_all(self, *lines):
        """("answer", entries), or the refusal."""
        kept = list(self.rows)
        for index, line in enumerate(lines):
            fault = self.fault(line)
            if fault is not None:
                self.rows = kept
                return ("BadCommand", *fault, index)
            self.rows.append((line, self.entry(line)))
        if lines:
            self.undone = []
        return ("answer", [entry for _, entry in self.rows[len(kept):]])

    def undo(self):
        if not self.rows:
            return ("NothingLeft", "undo")
        self.undone.append(self.rows.pop()[0])
        return ("answer", self.undone[-1])

    def redo(self):
        if not self.undone:
            return ("NothingLeft", "redo")
        line = self.undone.pop()
        self.rows.append((line, self.entry(line)))
        return ("answer", line)


class BookTest(ProgramTest):

    def check_views(self, book, model):
        entries = model.entries()
        self.same(len(book), len(model.rows))
        self.same(list(book), list(entries))
        self.same(book.all_lines(), [line for line, _ in model.rows])
        self.same(book.all_rows(), model.rows)
        for name in (*entries, "missing", "zz", "", "a b", "A"):
            self.assertIs(name in book, name in entries)
            self.assertIs(name not in book, name not in entries)
            if name in entries:
                self.same(book[name], entries[name][1])
            else:
                self.same(refusal(lambda: book[name]), ("NoEntry", name))

    def check_run(self, book, model, *lines, views=True):
        """Run lines at a book and at its model."""
        expected = model.run_all(*lines)
        found = refusal(book.run_all, *lines)
        self.same(found, expected)
        spoil(list(found))
        if views:
            self.check_views(book, model)
        return expected

    def books(self, *lines):
        """A book and its model that ran these lines."""
        book, model = Book(), BookModel()
        found = refusal(book.run_all, *lines)
        self.same(found, model.run_all(*lines))
        self.same(found[0], "answer")
        return (book, model)


class EntriesTest(BookTest):

    def test_examples(self):
        book = Book()
        found = book.run_all("set a 8 97 33 1 1 1 7 4", "bounds b a")
        self.same(found, [("set", (8, 97, 33, 1, 1, 1, 7, 4)), ("bounds", "a", (8, 8, 0, 1, 3), 20, 23, True)])
        self.same(refusal(Book().run_all, "bounds b a", "foo"), ("BadCommand", "missing", 2, 0))

    def test_a_new_book(self):
        book = Book()
        self.check_views(book, BookModel())
        self.same((len(book), list(book), book.all_lines(), book.all_rows()), (0, [], [], []))
        self.same(book.run_all(), [])

    def test_each_kind(self):
        book, model = Book(), BookModel()
        for line in LINES:
            expected = model.run_all(line)
            self.same(("answer", [book.run(line)]), expected)
            self.check_views(book, model)
        self.same([entry[0] for _, entry in book.all_rows()], [
            "set", "set", "set", "keys", "keys", "keys", "letter", "letter", "turned", "turned", "found", "found", "found",
            "noise", "noise", "bounds", "bounds",
        ])

    def test_other_sets(self):
        for numbers in ALWAYS + NOISY:
            text = " ".join(str(number) for number in numbers)
            most = 2 ** numbers[0] - 1
            self.check_run(*self.books(), f"set a {text}", "bounds b a", "keys k a 0 0", f"keys k2 a {TOP - 1} {TOP - 1}",
                           "letter l k 0", f"letter l2 k2 {most}", "noise n l", "noise n2 l2", "receive r k l",
                           "receive r2 k2 l2", "receive r3 k l2", "turn t l 0 0", "turn t2 l 1 255", "receive r4 k t2")

    def test_published_sets(self):
        for name in ("ML-KEM-512", "ML-KEM-768", "ML-KEM-1024"):
            book, model = self.books(f"published p {name}")
            self.same(book["p"], ("set", published(name).numbers))
            self.check_run(book, model, "keys k p 1 2", f"letter l k {2 ** 255 + 1}", "noise n l", "receive r k l", "bounds b p")
            self.same(book["r"][3:], (book["l"][3], "found"))
            self.same(book["n"][3], [])
            self.same(book["b"][5], False)

    def test_found_and_other(self):
        book, _ = self.books(*LINES)
        letter, key = book["l"][2:]
        self.same(book["r"], ("found", "k", "l", key, "found"))
        self.same(book["rt"][4], "other")
        self.assertNotEqual(book["rt"][3], key)
        # A turn that changes nothing is a turned entry all the same.
        self.same(book.run(f"turn same l 3 {letter[3]}"), ("turned", "l", letter))
        self.same(book.run("receive back k same"), ("found", "k", "same", key, "found"))
        # The keys of another seed receive the other key.
        book.run_all("keys foreign a 77 78", "receive rf foreign l")
        self.same(book["rf"][4], "other")

    def test_seeds_and_messages(self):
        book, _ = self.books("set a 16 593 82 3 1 2 11 10", f"keys k a {256 ** 31 * 7 + 5} {256 * 9}", "letter l k 515")
        params = set_of((16, 593, 82, 3, 1, 2, 11, 10))
        public_key, secret_key = make_keys(params, [5] + [0] * 30 + [7], [0, 9] + [0] * 30)
        self.same(book["k"], ("keys", "a", public_key, secret_key))
        key, letter = send(params, public_key, [3, 2])
        self.same(book["l"], ("letter", "k", letter, key))

    def test_equal_sets_with_other_names(self):
        book, model = self.books(*LINES)
        self.check_run(book, model, "receive x k3 l", "receive y k3 tt", "letter l3 k3 200", "receive z k l3")
        self.same(book["x"], ("found", "k3", "l", book["l"][3], "found"))

    def test_long_chains_of_turns(self):
        book, model = self.books(SET_LINE, "keys k a 1 2", "letter l k 200")
        lines = ["turn t0 l 0 1", *[f"turn t{number} t{number - 1} {number % 11} {number % 256}" for number in range(1, 1500)]]
        book.run_all(*lines)
        self.same(book.run("receive r k t1499")[4], "other")
        self.same(refusal(book.run, "noise n t1499"), ("BadCommand", "kind", 2, 0))
        self.same(len(book), 1504)


class FaultTest(BookTest):

    def check_fault(self, line, fault, place, before=LINES):
        book, model = self.books(*before)
        self.same(model.run_all(line), ("BadCommand", fault, place, 0))
        self.same(refusal(book.run, line), ("BadCommand", fault, place, 0))
        self.same(refusal(book.run, line=line), ("BadCommand", fault, place, 0))
        self.check_views(book, model)

    def check_faults(self, *cases):
        book, model = self.books(*LINES)
        for line, fault, place in cases:
            self.same(model.run_all(line), ("BadCommand", fault, place, 0))
            self.same(refusal(book.run, line), ("BadCommand", fault, place, 0))
            self.same(refusal(book.run_all, line), ("BadCommand", fault, place, 0))
        self.check_views(book, model)

    def test_shapes(self):
        self.check_faults(
            ("", "space", 0), ("set  x", "space", 1), ("foo", "command", 0), ("bounds x", "count", 2),
            ("bounds X a", "name", 1), ("bounds x A", "name", 2), ("letter x k 01", "number", 3),
        )

    def test_taken(self):
        names = [line.split(" ")[1] for line in LINES]
        cases = []
        for name in names:
            cases += [(f"set {name} 8 97 33 1 1 1 7 4", "taken", 1), (f"published {name} ML-KEM-512", "taken", 1),
                      (f"keys {name} a 1 2", "taken", 1), (f"letter {name} k 1", "taken", 1),
                      (f"turn {name} l 1 1", "taken", 1), (f"receive {name} k l", "taken", 1),
                      (f"noise {name} l", "taken", 1), (f"bounds {name} a", "taken", 1)]
        self.check_faults(*cases)

    def test_missing_and_kind(self):
        kinds = {"set": "abc", "keys": ("k", "k2", "k3"), "letter": ("l", "l2"), "turned": ("t", "tt"),
                 "found": ("r",), "noise": ("n",), "bounds": ("u",)}
        cases = []
        for line, place, right in (
            ("keys x {} 1 2", 2, ("set",)), ("bounds x {}", 2, ("set",)), ("letter x {} 1", 2, ("keys",)),
            ("receive x {} l", 2, ("keys",)), ("turn x {} 1 1", 2, ("letter", "turned")),
            ("receive x k {}", 3, ("letter", "turned")), ("noise x {}", 2, ("letter",)),
        ):
            for name in ("missing", "x", "aa", "published"):
                cases.append((line.format(name), "missing", place))
            for kind, names in kinds.items():
                if kind not in right:
                    cases += [(line.format(name), "kind", place) for name in names]
        self.check_faults(*cases)

    def test_published_names(self):
        self.check_faults(*[(f"published x {word}", "missing", 2) for word in (
            "ML-KEM-513", "ml-kem-512", "ML-KEM", "a", "512", "\n", "ML-KEM-512\n", "ML-KEM-10244", "~",
        )])

    def test_ranges(self):
        self.check_faults(
            (f"keys x a {TOP} 0", "range", 3), (f"keys x a 0 {TOP}", "range", 4), (f"keys x a {10 ** 78 - 1} {TOP}", "range", 3),
            ("letter x k 256", "range", 3), ("letter x k2 256", "range", 3), (f"letter x k {10 ** 78 - 1}", "range", 3),
            ("turn x l 11 0", "range", 3), ("turn x tt 11 0", "range", 3), ("turn x l2 13 0", "range", 3),
            (f"turn x l {10 ** 77} 0", "range", 3), ("turn x l 0 256", "range", 4), (f"turn x t 10 {10 ** 77}", "range", 4),
        )
        for line in (f"keys x a {TOP - 1} {TOP - 1}", "letter x k 255", "turn x l 10 255", "turn x l2 12 0", "letter x k2 0"):
            book, model = self.books(*LINES)
            self.same(self.check_run(book, model, line)[0], "answer")

    def test_messages_of_great_sets(self):
        before = ("set a 64 193 11 1 3 1 11 1", "keys k a 1 2")
        self.check_fault(f"letter x k {2 ** 64}", "range", 3, before)
        book, model = self.books(*before)
        self.same(self.check_run(book, model, f"letter x k {2 ** 64 - 1}")[0], "answer")
        before = ("published a ML-KEM-512", "keys k a 1 2")
        self.check_fault(f"letter x k {2 ** 256}", "range", 3, before)

    def test_sets_that_differ(self):
        self.check_faults(
            ("receive x k l2", "set", 3), ("receive x k2 l", "set", 3), ("receive x k2 t", "set", 3),
            ("receive x k2 tt", "set", 3), ("receive x k3 l2", "set", 3),
        )
        # One number alone makes another set, also with letters of the same length.
        before = (SET_LINE, "set d 8 97 33 1 1 2 7 4", "keys k a 1 2", "keys k4 d 1 2", "letter l k 3", "letter l4 k4 3")
        self.check_fault("receive x k l4", "set", 3, before)
        self.check_fault("receive x k4 l", "set", 3, before)

    def test_parameters(self):
        good = SET_LINE.split(" ")
        cases = []
        for place, words in enumerate((
            ("0", "7", "9", "512"), ("0", "2", "96", "98", "4099"), ("0", "1", "34", "97"), ("0", "5"), ("0", "4"), ("0", "4"),
            ("0", "12"), ("0", "12"),
        ), start=2):
            for word in (*words, "1" + "0" * 77):
                line = " ".join(["set", "x", *good[2:place], word, *good[place + 1:]])
                cases.append((line, "parameters", place))
        for first in range(2, 10):
            cases.append((" ".join(["set", "x", *good[2:first], *["0"] * (10 - first)]), "parameters", first))
        self.check_faults(*cases)

    def test_several_faults(self):
        self.check_faults(
            ("keys a missing 1 2", "taken", 1), (f"keys a a {TOP} {TOP}", "taken", 1), ("set a 0 0 0 0 0 0 0 0", "taken", 1),
            (f"keys x missing {TOP} {TOP}", "missing", 2), (f"keys x k {TOP} {TOP}", "kind", 2), (f"keys x a {TOP} {TOP}", "range", 3),
            ("letter l missing 999", "taken", 1), ("letter x missing 999", "missing", 2), ("letter x a 999", "kind", 2),
            ("turn x missing 999 999", "missing", 2), ("turn x k 999 999", "kind", 2), ("turn x l 999 999", "range", 3),
            ("turn l l 999 999", "taken", 1), ("receive r missing missing", "taken", 1), ("receive x missing missing", "missing", 2),
            ("receive x l missing", "kind", 2), ("receive x k missing", "missing", 3), ("receive x k2 k", "kind", 3),
            ("receive x missing l2", "missing", 2), ("published a nothing", "taken", 1), ("bounds u missing", "taken", 1),
            ("noise n missing", "taken", 1), ("bounds a A", "name", 2), (f"keys a a {TOP} 00", "number", 4),
        )

    def test_own_name(self):
        # The new entry is not in the book while its line is looked at.
        self.check_faults(
            ("keys x x 1 2", "missing", 2), ("letter x x 1", "missing", 2), ("turn x x 0 0", "missing", 2),
            ("receive x x l", "missing", 2), ("receive x k x", "missing", 3), ("noise x x", "missing", 2), ("bounds x x", "missing", 2),
        )

    def test_random_lines(self):
        chance = random.Random(87)
        names = ["a", "b", "k", "k2", "l", "t", "r", "n", "u", "new", "newer", "x1"]
        numbers = ["0", "1", "8", "10", "11", "255", "256", str(TOP), "97", "33"]
        for _ in range(15):
            book, model = self.books()
            for line in (SET_LINE, "set b 8 17 9 2 3 1 4 5"):
                self.check_run(book, model, line)
            for _ in range(60):
                command = chance.choice(list(SHAPES))
                words = [command]
                for place, kind in enumerate(SHAPES[command]):
                    words.append(chance.choice({"n": names, "N": numbers, "w": ["ML-KEM-512", "x"]}[kind]))
                if command == "published" and chance.random() < 0.9:
                    continue
                self.check_run(book, model, " ".join(words), views=False)
            self.check_views(book, model)


class SeveralLinesTest(BookTest):

    def test_one_after_the_other(self):
        book, model = Book(), BookModel()
        self.check_run(book, model, *LINES[:7])
        self.check_run(book, model)
        self.check_run(book, model, *LINES[7:])
        self.same(len(book), len(LINES))

    def test_one_that_raises(self):
        for place in range(5):
            for wrong, fault in (
                ("bounds a missing", None), ("foo", ("command", 0)), ("", ("space", 0)), ("bounds zz missing", ("missing", 2)),
                ("letter zz k 256", None), ("set zz 8 97 33 1 1 1 7 12", ("parameters", 9)),
            ):
                book, model = self.books("set z 8 17 2 1 1 1 1 1")
                lines = [SET_LINE, "keys k a 1 2", "letter l k 3", "noise n l"]
                lines.insert(place, wrong)
                expected = self.check_run(book, model, *lines)
                self.same((expected[0], expected[3]), ("BadCommand", place))
                if fault is not None:
                    self.same(expected[1:3], fault)
                self.same(book.all_lines(), ["set z 8 17 2 1 1 1 1 1"])

    def test_the_first_one_counts(self):
        book, model = self.books()
        self.check_run(book, model, SET_LINE, "bounds b missing", "foo", "")
        self.check_run(book, model, SET_LINE, "", "bounds b missing")
        # The shape of a line is looked at when its turn comes.
        self.same(refusal(book.run_all, "bounds b a", "foo"), ("BadCommand", "missing", 2, 0))
        self.same(refusal(book.run_all, SET_LINE, "bounds b a", "foo"), ("BadCommand", "command", 0, 2))
        self.same(refusal(book.run_all, SET_LINE, SET_LINE), ("BadCommand", "taken", 1, 1))
        self.same(len(book), 0)

    def test_nothing_is_left_of_a_refused_call(self):
        book, model = self.books(SET_LINE)
        self.same(refusal(book.run_all, "keys k a 1 2", "letter l k 3", "letter m k 256"), ("BadCommand", "range", 3, 2))
        self.check_views(book, model)
        self.check_run(book, model, "keys k a 9 9", "letter l k 4")

    def test_run_is_one_line(self):
        book, model = self.books(SET_LINE)
        self.same(refusal(book.run, "bounds b missing"), ("BadCommand", "missing", 2, 0))
        self.same(book.run("bounds b a"), model.run_all("bounds b a")[1][0])
        self.same(refusal(book.run, "bounds b a"), ("BadCommand", "taken", 1, 0))
        self.same(book.run(line="bounds d a"), ("bounds", "a", (8, 8, 0, 1, 3), 20, 23, True))


class UndoTest(BookTest):

    def check_step(self, book, model, word):
        self.same(refusal(getattr(book, word)), getattr(model, word)())
        self.check_views(book, model)

    def test_nothing_left(self):
        book, model = Book(), BookModel()
        for word in ("undo", "redo", "undo", "redo"):
            self.check_step(book, model, word)
        self.same(refusal(book.undo), ("NothingLeft", "undo"))
        self.same(refusal(book.redo), ("NothingLeft", "redo"))
        self.same(self.check_run(book, model, SET_LINE)[0], "answer")
        self.same(refusal(book.redo), ("NothingLeft", "redo"))
        for word in ("undo", "undo", "redo", "redo"):
            self.check_step(book, model, word)

    def test_the_only_row(self):
        book, model = self.books(SET_LINE)
        self.same(book.undo(), SET_LINE)
        self.same((len(book), "a" in book, list(book)), (0, False, []))
        self.same(refusal(lambda: book["a"]), ("NoEntry", "a"))
        self.same(book.redo(), SET_LINE)
        self.check_views(book, model)

    def test_all_lines_back_and_forth(self):
        book, model = self.books(*LINES)
        for _ in range(2):
            for line in reversed(LINES):
                self.check_step(book, model, "undo")
                self.assertNotIn(line.split(" ")[1], book)
            self.check_step(book, model, "undo")
            for _ in range(len(LINES) + 1):
                self.check_step(book, model, "redo")
        self.same(book.all_lines(), list(LINES))

    def test_the_rest_of_the_stack_stays(self):
        book, model = self.books(*LINES)
        for word in ("undo", "undo", "undo", "redo", "undo", "undo", "redo", "redo", "redo", "redo", "redo"):
            self.check_step(book, model, word)

    def test_runs_that_raise(self):
        book, model = self.books(*LINES)
        self.check_step(book, model, "undo")
        self.check_step(book, model, "undo")
        for lines in (("foo",), ("bounds b missing",), ("bounds x a", "foo"), (SET_LINE,)):
            self.same(self.check_run(book, model, *lines)[0], "BadCommand")
        self.same(refusal(book.run, "foo")[0], "BadCommand")
        self.check_step(book, model, "redo")
        self.check_step(book, model, "redo")
        self.check_step(book, model, "redo")
        self.same(book.all_lines(), list(LINES))

    def test_no_lines_leave_the_stack(self):
        book, model = self.books(*LINES)
        self.check_step(book, model, "undo")
        self.same(self.check_run(book, model), ("answer", []))
        self.check_step(book, model, "redo")
        self.same(len(book), len(LINES))

    def test_runs_empty_the_stack(self):
        for lines in (("bounds x a",), ("bounds x a", "bounds y a"), LINES[-1:]):
            book, model = self.books(*LINES)
            self.check_step(book, model, "undo")
            self.check_step(book, model, "undo")
            self.check_step(book, model, "redo")
            self.check_step(book, model, "undo")
            self.same(self.check_run(book, model, *lines)[0], "answer")
            self.check_step(book, model, "redo")
            self.same(refusal(book.redo), ("NothingLeft", "redo"))
        book, _ = self.books(*LINES)
        book.undo()
        book.run("bounds x a")
        self.same(refusal(book.redo), ("NothingLeft", "redo"))

    def test_another_line_with_an_undone_name(self):
        book, model = self.books(SET_LINE, "keys k a 1 2", "letter l k 3")
        self.check_step(book, model, "undo")
        self.check_run(book, model, "letter l k 4")
        self.check_step(book, model, "undo")
        self.check_step(book, model, "undo")
        self.check_run(book, model, "bounds k a")
        self.same(self.check_run(book, model, "letter l k 4"), ("BadCommand", "kind", 2, 0))

    def test_random_walks(self):
        chance = random.Random(88)
        for _ in range(12):
            book, model = self.books(SET_LINE, "keys k a 1 2")
            for number in range(40):
                word = chance.choice(("undo", "undo", "redo", "redo", "run", "several", "wrong"))
                if word in ("undo", "redo"):
                    self.check_step(book, model, word)
                elif word == "run":
                    self.check_run(book, model, f"set s{number} 8 17 2 1 1 1 1 1")
                elif word == "several":
                    self.check_run(book, model, f"set s{number} 8 17 2 1 1 1 1 1", f"bounds b{number} s{number}")
                else:
                    self.check_run(book, model, f"set s{number} 8 17 2 1 1 1 1 1", f"bounds b{number} missing")


class CopiesTest(BookTest):

    def test_changed_answers(self):
        book, model = self.books(*LINES)
        for _ in range(2):
            spoil([book[name] for name in book])
            spoil([book.all_rows(), book.all_lines()])
            self.check_views(book, model)
        rows = book.all_rows()
        spoil([book.run("letter x k 9"), book.run_all("turn y x 0 0", "receive z k y")])
        self.same(model.run_all("letter x k 9", "turn y x 0 0", "receive z k y")[0], "answer")
        self.check_views(book, model)
        self.same(rows, model.rows[:len(LINES)])

    def test_kinds(self):
        book, _ = self.books(*LINES)
        for row in book.all_rows():
            self.assertIs(row.__class__, tuple)
            self.assertIs(row[1].__class__, tuple)
        self.assertIs(book["u"][5], True)
        self.assertIs(book["u2"][5], False)
        self.same(book["a"], ("set", SMALL))

    def test_iterating_twice(self):
        book, model = self.books(*LINES)
        names = list(model.entries())
        self.same([name for name in book], names)
        self.same([(one, two) for one in book for two in book], list(itertools.product(names, repeat=2)))

    def test_two_books(self):
        first, second = self.books(*LINES)[0], Book()
        self.same((len(first), len(second)), (len(LINES), 0))
        self.assertNotIn("a", second)
        second.run("set a 8 17 2 1 1 1 1 1")
        first.undo()
        self.same((len(first), len(second), second["a"]), (len(LINES) - 1, 1, ("set", (8, 17, 2, 1, 1, 1, 1, 1))))
        self.same(refusal(second.redo), ("NothingLeft", "redo"))


class TwinTest(BookTest):

    def test_led_on_apart(self):
        book, model = self.books(*LINES)
        for _ in range(3):
            self.same(book.undo(), model.undo()[1])
        twin, other = book.twin(), copy.deepcopy(model)
        self.assertIs(twin.__class__, Book)
        self.check_views(twin, other)
        self.same(first_difference(book, twin), None)
        self.same(twin.redo(), other.redo()[1])
        self.check_views(book, model)
        self.check_views(twin, other)
        self.same(first_difference(book, twin), len(LINES) - 3)
        self.same(self.check_run(book, model, "bounds x a")[0], "answer")
        self.check_views(twin, other)
        self.same(refusal(book.redo), ("NothingLeft", "redo"))
        self.same(twin.redo(), other.redo()[1])
        self.same(twin.redo(), other.redo()[1])
        self.same(refusal(twin.redo), ("NothingLeft", "redo"))
        self.check_views(twin, other)
        self.check_views(book, model)
        for _ in range(len(twin)):
            twin.undo()
        self.check_views(book, model)
        self.same(len(twin), 0)

    def test_stacks_apart(self):
        book, model = self.books(*LINES)
        for _ in range(3):
            self.same(book.undo(), model.undo()[1])
        twin, other = book.twin(), copy.deepcopy(model)
        for _ in range(4):
            self.same(refusal(twin.redo), other.redo())
        for _ in range(2):
            self.same(refusal(book.undo), model.undo())
        for _ in range(6):
            self.same(refusal(book.redo), model.redo())
            self.same(refusal(twin.undo), other.undo())
        for _ in range(7):
            self.same(refusal(twin.redo), other.redo())
        self.check_views(book, model)
        self.check_views(twin, other)

    def test_twins_of_twins(self):
        book, model = self.books(SET_LINE)
        twin = book.twin()
        third = twin.twin()
        twin.run("bounds b a")
        self.same([len(item) for item in (book, twin, third)], [1, 2, 1])
        book.undo()
        self.same([len(item) for item in (book, twin, third)], [0, 2, 1])
        self.same(Book().twin().all_rows(), [])
        spoil([twin["a"], third.all_rows()])
        self.check_views(third, model)


class ReplayTest(BookTest):

    def test_same_rows(self):
        for count in range(len(LINES) + 1):
            book = replay(list(LINES[:count]))
            self.assertIs(book.__class__, Book)
            self.same(book.all_rows(), self.books(*LINES[:count])[1].rows)
            self.same(refusal(book.redo), ("NothingLeft", "redo"))

    def test_lines_of_a_book(self):
        book, _ = self.books(*LINES)
        book.undo()
        self.same(replay(book.all_lines()).all_rows(), book.all_rows())
        lines = book.all_lines()
        again = replay(lines=lines)
        spoil(lines)
        self.same(again.all_rows(), book.all_rows())

    def test_refusals(self):
        for place in range(4):
            for wrong, fault in (("foo", ("command", 0)), ("bounds x missing", ("missing", 2)), ("", ("space", 0))):
                lines = list(LINES[:3])
                lines.insert(place, wrong)
                before = list(lines)
                self.same(refusal(replay, lines), ("BadCommand", *fault, place))
                self.same(lines, before)
        self.same(refusal(replay, [SET_LINE, SET_LINE]), ("BadCommand", "taken", 1, 1))

    def test_many_lines(self):
        lines = [f"set s{number} 8 17 2 1 1 1 1 1" for number in range(4000)]
        book = replay(lines)
        self.same(len(book), 4000)
        self.same(book.all_lines(), lines)
        self.same(audit(book.all_rows()), None)


class AuditTest(BookTest):

    def check_audit(self, rows, expected):
        before = repr(rows)
        self.same(audit(rows), expected)
        self.same(audit(rows=rows), expected)
        self.assertEqual(repr(rows), before)

    def test_right_rows(self):
        rows = self.books(*LINES)[0].all_rows()
        for count in range(len(rows) + 1):
            self.same(audit(rows[:count]), None)
        self.check_audit([], None)

    def test_bent_rows(self):
        lines = (SET_LINE, "keys k a 1 2", "letter l k 200", "noise n l", "bounds u a", "receive r k l", "turn t l 1 2")
        rows = self.books(*lines)[0].all_rows()
        for place, row in enumerate(rows):
            for bent in bent_papers(row[1]):
                self.same(audit([*rows[:place], (row[0], bent), *rows[place + 1:]]), place)
            for line in ("", "foo", row[0] + " ", None, 0, [row[0]], (row[0],), "set zz 8 17 2 1 1 1 1 1", row[0].upper()):
                self.check_audit([*rows[:place], (line, row[1]), *rows[place + 1:]], place)
            for other in (None, row[0], row[1], list(row), (row[0],), (*row, None), (row[1], row[0]), [], (), "", 0, ((row,),)):
                self.check_audit([*rows[:place], other, *rows[place + 1:]], place)

    def test_kinds(self):
        book, _ = self.books(SET_LINE, "bounds b a", "set d 8 17 2 1 1 1 1 1", "bounds e d")
        rows = book.all_rows()
        self.same(rows[1][1][5], True)
        for row, place, expected in (
            (("bounds b a", (*rows[1][1][:5], 1)), 1, 1), (("bounds e d", (*rows[3][1][:5], 0)), 3, 3),
            (("bounds b a", (*rows[1][1][:2], list(rows[1][1][2]), *rows[1][1][3:])), 1, 1),
            ((SET_LINE, ("set", list(SMALL))), 0, 0), ((SET_LINE, ["set", SMALL]), 0, 0),
            ((SET_LINE, ("set", (8, 97, 33, True, 1, 1, 7, 4))), 0, 0), ((SET_LINE, ("set", SMALL)), 0, None),
        ):
            self.check_audit([*rows[:place], row, *rows[place + 1:]], expected)

    def test_order_and_missing_rows(self):
        rows = self.books(*LINES)[0].all_rows()
        self.check_audit(rows[1:], 2)
        self.check_audit([rows[0], *rows], 1)
        self.check_audit([rows[3], rows[0]], 0)
        self.check_audit([*rows, rows[-1]], len(rows))
        self.check_audit([*rows, None], len(rows))

    def test_rows_behind_a_wrong_one(self):
        rows = self.books(*LINES)[0].all_rows()
        self.check_audit([rows[0], ("bounds x a", None), *rows[1:]], 1)
        self.check_audit([None, *rows], 0)
        # A line that raises leaves nothing, and what stands behind does not count.
        self.check_audit([rows[0], ("bounds x missing", rows[0][1]), None], 1)

    def test_any_values(self):
        for paper in ANY_PAPERS:
            self.check_audit([paper], 0)
            self.check_audit([(SET_LINE, paper)], 0)
            self.check_audit([(paper, ("set", SMALL))], 0)
            self.check_audit([(SET_LINE, ("set", SMALL)), paper], 1)
            self.check_audit([(SET_LINE, ("set", paper))], 0)


class DifferenceTest(BookTest):

    def check_books(self, first, second, expected):
        self.same(first_difference(first, second), expected)
        self.same(first_difference(second=first, first=second), expected)

    def test_lengths(self):
        book = self.books(*LINES)[0]
        for count in range(len(LINES) + 1):
            self.check_books(book, replay(list(LINES[:count])), None if count == len(LINES) else count)
        self.check_books(Book(), Book(), None)

    def test_one_row(self):
        lines = (SET_LINE, "keys k a 1 2", "letter l k 200", "turn t l 3 255", "bounds u a")
        others = ("set a 8 97 33 1 1 1 7 5", "keys k a 1 3", "letter l k 201", "turn t l 3 254", "bounds v a")
        for place, other in enumerate(others):
            bent = [*lines[:place], other, *lines[place + 1:]]
            self.check_books(replay(list(lines)), replay(bent), place)

    def test_undone_lines_are_not_compared(self):
        first, second = self.books(*LINES)[0], self.books(*LINES)[0]
        first.undo()
        self.check_books(first, second, len(LINES) - 1)
        second.undo()
        second.undo()
        self.check_books(first, second, len(LINES) - 2)
        second.redo()
        self.check_books(first, second, None)
        self.check_books(first, replay(list(LINES[:-1])), None)

    def test_equal_entries_of_other_lines(self):
        # The same entry by set and by published is another row.
        first = replay(["published p ML-KEM-512"])
        second = replay(["set p " + " ".join(str(number) for number in PUBLISHED[0])])
        self.same(first["p"], second["p"])
        self.check_books(first, second, 0)

    def test_nothing_changes(self):
        book, model = self.books(*LINES)
        first_difference(book, Book())
        self.check_views(book, model)


if __name__ == "__main__":
    unittest.main()
