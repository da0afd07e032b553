"""Books: script lines that were run, and the entries that they gave."""

from noisebound.bounds import always_comes_back, noise_bound, noise_terms, room
from noisebound.checks import first_unlike, is_same
from noisebound.errors import BadCommand, NoEntry, NothingLeft
from noisebound.exchange import key_and_randomness, make_keys, receive_report, send
from noisebound.noise import lost_places, noise_row
from noisebound.octets import change_byte, little_bytes
from noisebound.parameters import parameter_fault, published, published_names, set_of
from noisebound.sampling import SEED_BYTES
from noisebound.script import check_fault, read_command

DEMANDS = ("n", "q", "root", "k", "secret_width", "noise_width", "u_width", "v_width")
SEED_LIMIT = 1 << 256
BYTE_LIMIT = 256

# What each word behind the first one must be; the numbers of a set are looked at together.
ROLES = {
    "set": ("new",),
    "published": ("new", "published"),
    "keys": ("new", "set", "seed", "seed"),
    "letter": ("new", "keys", "message"),
    "turn": ("new", "sent", "place", "byte"),
    "receive": ("new", "keys", "sent"),
    "noise": ("new", "letter"),
    "bounds": ("new", "set"),
}
KINDS = {"set": ("set",), "keys": ("keys",), "letter": ("letter",), "sent": ("letter", "turned")}


class Page:
    """A row of a book, with the words of its line and the set that it belongs to. It never changes."""

    def __init__(self, line, command, entry, params):
        self.line = line
        self.command = command
        self.entry = entry
        self.params = params


def copy_of(entry):
    """Copy an entry with its lists."""
    return tuple([list(item) if isinstance(item, list) else item for item in entry])


def word_fault(pages, command, place):
    """Return what is wrong with a word, or None."""
    role = ROLES[command[0]][place - 1]
    word = command[place]
    if role == "new":
        return "taken" if word in pages else None
    if role == "published":
        return None if word in published_names() else "missing"
    if role in KINDS:
        return entry_fault(pages, word, KINDS[role])
    return None if word < limit_of(pages, command, role) else "range"


def entry_fault(pages, name, kinds):
    """Return what is wrong with the name of an entry of one of these kinds, or None."""
    if name not in pages:
        return "missing"
    if pages[name].entry[0] not in kinds:
        return "kind"
    return None


def limit_of(pages, command, role):
    """Return the least number that is too great for a role."""
    if role == "seed":
        return SEED_LIMIT
    if role == "byte":
        return BYTE_LIMIT
    page = pages[command[2]]
    if role == "message":
        return 1 << page.params.n
    return len(page.entry[2])


def line_fault(pages, command):
    """Return the fault of running a line and its place, or None."""
    for place in range(1, len(ROLES[command[0]]) + 1):
        fault = word_fault(pages, command, place)
        if fault is not None:
            return (fault, place)
    if command[0] == "set":
        return numbers_fault(command)
    if command[0] == "receive" and pages[command[2]].params != pages[command[3]].params:
        return ("set", 3)
    return None


def numbers_fault(command):
    """Return the fault of the numbers of a set and its place, or None."""
    n, q, root, k, secret_width, noise_width, u_width, v_width = command[2:]
    demand = parameter_fault(
        n=n, q=q, root=root, k=k,
        secret_width=secret_width, noise_width=noise_width, u_width=u_width, v_width=v_width,
    )
    if demand is None:
        return None
    return ("parameters", 2 + DEMANDS.index(demand))


def params_for(pages, command):
    """Return the set that a line belongs to."""
    if command[0] == "set":
        return set_of(command[2:])
    if command[0] == "published":
        return published(command[2])
    return pages[command[2]].params


def message_of(params, command):
    """Return the message of a letter line."""
    return little_bytes(params.message_bytes, command[3])


def set_entry(pages, params, command):
    """Return the entry of a set line or a published line."""
    return ("set", params.numbers)


def keys_entry(pages, params, command):
    """Return the entry of a keys line."""
    key_seed = little_bytes(SEED_BYTES, command[3])
    fallback_seed = little_bytes(SEED_BYTES, command[4])
    public_key, secret_key = make_keys(params, key_seed, fallback_seed)
    return ("keys", command[2], public_key, secret_key)


def letter_entry(pages, params, command):
    """Return the entry of a letter line."""
    key, letter = send(params, pages[command[2]].entry[2], message_of(params, command))
    return ("letter", command[2], letter, key)


def turned_entry(pages, params, command):
    """Return the entry of a turn line."""
    return ("turned", command[2], change_byte(pages[command[2]].entry[2], command[3], command[4]))


def found_entry(pages, params, command):
    """Return the entry of a receive line."""
    secret_key = pages[command[2]].entry[3]
    _, _, key, word = receive_report(params, secret_key, pages[command[3]].entry[2])
    return ("found", command[2], command[3], key, word)


def noise_entry(pages, params, command):
    """Return the entry of a noise line."""
    made = pages[command[2]].command
    keys = pages[made[2]]
    message = message_of(params, made)
    _, randomness = key_and_randomness(params, keys.entry[2], message)
    noise = noise_row(params, little_bytes(SEED_BYTES, keys.command[3]), message, randomness)
    return ("noise", command[2], noise, lost_places(params, message, noise))


def bounds_entry(pages, params, command):
    """Return the entry of a bounds line."""
    return (
        "bounds", command[2], noise_terms(params), noise_bound(params), room(params), always_comes_back(params),
    )


MAKERS = {
    "set": set_entry,
    "published": set_entry,
    "keys": keys_entry,
    "letter": letter_entry,
    "turn": turned_entry,
    "receive": found_entry,
    "noise": noise_entry,
    "bounds": bounds_entry,
}


def page_for(pages, line, index):
    """Return the page that a line gives behind these pages."""
    command = read_command(line, index)
    check_fault(line_fault(pages, command), index)
    params = params_for(pages, command)
    make = MAKERS[command[0]]
    return Page(line, command, make(pages, params, command), params)


class Book:
    """Runs script lines and keeps their entries by name."""

    def __init__(self):
        # By their names, in the order of the rows.
        self._pages = {}
        self._undone = []

    def __len__(self):
        return len(self._pages)

    def __contains__(self, x):
        return x in self._pages

    def __getitem__(self, at):
        if at not in self._pages:
            raise NoEntry(at)
        return copy_of(self._pages[at].entry)

    def __iter__(self):
        return iter(self._pages)

    def run(self, line):
        """Run a line and return its entry."""
        return self.run_all(line)[0]

    def run_all(self, *lines):
        """Run several lines, or none of them if one is refused, and return their entries."""
        pages = dict(self._pages)
        entries = []
        for index, line in enumerate(lines):
            page = page_for(pages, line, index)
            pages[page.command[1]] = page
            entries.append(copy_of(page.entry))
        if len(lines) > 0:
            self._pages = pages
            self._undone = []
        return entries

    def undo(self):
        """Take back the last row and return its line."""
        if len(self._pages) == 0:
            raise NothingLeft("undo")
        name = list(self._pages)[-1]
        page = self._pages.pop(name)
        self._undone.append(page)
        return page.line

    def redo(self):
        """Bring back the row that was taken back last and return its line."""
        if len(self._undone) == 0:
            raise NothingLeft("redo")
        # The rows before it are those that it was made behind, so its entry is still right.
        page = self._undone.pop()
        self._pages[page.command[1]] = page
        return page.line

    def all_lines(self):
        """List the lines of the rows."""
        return [page.line for page in self._pages.values()]

    def all_rows(self):
        """List the rows, pairs of a line and its entry."""
        return [(page.line, copy_of(page.entry)) for page in self._pages.values()]

    def twin(self):
        """Return a book with the same rows and the same undone lines that goes on on its own."""
        other = Book()
        other._pages = dict(self._pages)
        other._undone = list(self._undone)
        return other


def replay(lines):
    """Return a new book that ran these lines."""
    book = Book()
    book.run_all(*lines)
    return book


def audit(rows):
    """Return the index of the first row that its line does not give, or None."""
    book = Book()
    for index, row in enumerate(rows):
        if not runs_right(book, row):
            return index
    return None


def runs_right(book, row):
    """Run the line of a row, and tell if its entry is the one in the row."""
    if not isinstance(row, tuple) or len(row) != 2 or not isinstance(row[0], str):
        return False
    try:
        entry = book.run(row[0])
    except BadCommand:
        return False
    return is_same(row[1], entry)


def first_difference(first, second):
    """Return the least index at which two books differ, or None."""
    return first_unlike(first.all_rows(), second.all_rows())
