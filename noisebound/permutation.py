"""The permutation of 25 lanes, its steps, its rounds and their inverses.

The public functions check the state once; the functions whose names begin
with an underscore do the work on lanes that were checked before.
"""

from noisebound.checks import check_between, check_items, check_length
from noisebound.octets import check_bytes

LANE_MAX = 0xffffffffffffffff

# Item x + 5 * y belongs to lane (x, y) in the next two tables. They stand here,
# as the constants do, because working them out in every round would take too long.
OFFSETS = (
    0, 1, 62, 28, 27,
    36, 44, 6, 55, 20,
    3, 10, 43, 25, 39,
    41, 45, 15, 21, 8,
    18, 2, 61, 56, 14,
)

SOURCES = (
    0, 6, 12, 18, 24,
    3, 9, 10, 16, 22,
    1, 7, 13, 19, 20,
    4, 5, 11, 17, 23,
    2, 8, 14, 15, 21,
)

CONSTANTS = (
    0x0000000000000001, 0x0000000000008082, 0x800000000000808a, 0x8000000080008000,
    0x000000000000808b, 0x0000000080000001, 0x8000000080008081, 0x8000000000008009,
    0x000000000000008a, 0x0000000000000088, 0x0000000080008009, 0x000000008000000a,
    0x000000008000808b, 0x800000000000008b, 0x8000000000008089, 0x8000000000008003,
    0x8000000000008002, 0x8000000000000080, 0x000000000000800a, 0x800000008000000a,
    0x8000000080008081, 0x8000000000008080, 0x0000000080000001, 0x8000000080008008,
)


def check_state(state):
    """Refuse what is not a list of 25 lanes."""
    check_length(state, 25)
    check_items(state, 0, LANE_MAX)


def check_round(index):
    """Refuse what is not a round index."""
    check_between("index", index, 0, 23)


def check_rounds(first, last):
    """Refuse what are not the bounds of a part of the rounds."""
    check_between("first", first, 0, 24)
    check_between("last", last, first, 24)


def rotate(lane, count):
    """Rotate a lane toward the higher bits."""
    check_between("lane", lane, 0, LANE_MAX)
    check_between("count", count, 0, 1000)
    return _turn(lane, count % 64)


def state_from_bytes(data):
    """Read a state from 200 bytes."""
    check_bytes(data, length=200)
    return [
        sum([data[start + place] << (8 * place) for place in range(8)])
        for start in range(0, 200, 8)
    ]


def bytes_from_state(state):
    """Write a state in 200 bytes."""
    check_state(state)
    return [(lane >> left) & 255 for lane in state for left in (0, 8, 16, 24, 32, 40, 48, 56)]


def rotation_offset(x, y):
    """Return how far rho rotates lane (x, y)."""
    check_between("x", x, 0, 4)
    check_between("y", y, 0, 4)
    return OFFSETS[x + 5 * y]


def constant_bit(step):
    """Return the constant bit that stands after so many steps."""
    check_between("step", step, 0, 254)
    held = 1
    for _ in range(step):
        held = 2 * held
        if held >= 256:
            held = held ^ 369
    return held & 1


def round_constant(index):
    """Return what iota combines with lane (0, 0) in this round."""
    check_round(index)
    return CONSTANTS[index]


def column_parities(state):
    """Return the parities of the five columns."""
    check_state(state)
    return _parities(state)


def theta(state):
    """Combine each lane with the parities beside its column."""
    check_state(state)
    return _theta(state)


def rho(state):
    """Rotate each lane by its offset."""
    check_state(state)
    return _rho(state)


def pi(state):
    """Move each lane to its new place."""
    check_state(state)
    return _pi(state)


def chi(state):
    """Combine each lane with the two behind it in its row."""
    check_state(state)
    return _chi(state)


def inverse_theta(state):
    """Undo theta."""
    check_state(state)
    return _inverse_theta(state)


def inverse_rho(state):
    """Undo rho."""
    check_state(state)
    return _inverse_rho(state)


def inverse_pi(state):
    """Undo pi."""
    check_state(state)
    return _inverse_pi(state)


def inverse_chi(state):
    """Undo chi."""
    check_state(state)
    return _inverse_chi(state)


def iota(state, index):
    """Combine lane (0, 0) with the constant of a round."""
    check_state(state)
    check_round(index)
    return _iota(state, index)


def do_round(state, index):
    """Do one round."""
    check_state(state)
    check_round(index)
    return _round(state, index)


def undo_round(state, index):
    """Undo one round."""
    check_state(state)
    check_round(index)
    return _undo(state, index)


def permute(state, *, first=0, last=24):
    """Do the rounds from first to last - 1."""
    check_state(state)
    check_rounds(first, last)
    lanes = list(state)
    for index in range(first, last):
        lanes = _round(lanes, index)
    return lanes


def permute_back(state, *, first=0, last=24):
    """Undo the rounds from last - 1 down to first."""
    check_state(state)
    check_rounds(first, last)
    lanes = list(state)
    for index in range(last - 1, first - 1, -1):
        lanes = _undo(lanes, index)
    return lanes


def _turn(lane, count):
    return (lane << count | lane >> (64 - count)) & LANE_MAX


def _parities(lanes):
    return [lanes[x] ^ lanes[x + 5] ^ lanes[x + 10] ^ lanes[x + 15] ^ lanes[x + 20] for x in range(5)]


def _mixed(lanes, parities):
    masks = [parities[(x + 4) % 5] ^ _turn(parities[(x + 1) % 5], 1) for x in range(5)]
    return [lane ^ mask for lane, mask in zip(lanes, masks * 5)]


def _theta(lanes):
    return _mixed(lanes, _parities(lanes))


def _rho(lanes):
    # The rotation is written out because a call for each lane would take most of the time.
    return [(lane << left | lane >> (64 - left)) & LANE_MAX for lane, left in zip(lanes, OFFSETS)]


def _pi(lanes):
    return [lanes[source] for source in SOURCES]


def _chi(lanes):
    changed = []
    for row in range(0, 25, 5):
        a, b, c, d, e = lanes[row:row + 5]
        changed.extend([a ^ (~b & c), b ^ (~c & d), c ^ (~d & e), d ^ (~e & a), e ^ (~a & b)])
    return changed


def _iota(lanes, index):
    return [lanes[0] ^ CONSTANTS[index]] + lanes[1:]


def _round(lanes, index):
    return _iota(_chi(_pi(_rho(_theta(lanes)))), index)


def _inverse_theta(lanes):
    parities = _parities(lanes)
    for step in (1, 2, 4, 8, 16, 32):
        parities = [
            parities[x] ^ parities[(x - step) % 5] ^ _turn(parities[(x + step) % 5], step)
            for x in range(5)
        ]
    parities = [parities[x] ^ parities[(x - 2) % 5] ^ parities[(x - 3) % 5] for x in range(5)]
    return _mixed(lanes, parities)


def _inverse_rho(lanes):
    return [_turn(lane, 64 - left) for lane, left in zip(lanes, OFFSETS)]


def _inverse_pi(lanes):
    moved = [0] * 25
    for place, source in enumerate(SOURCES):
        moved[source] = lanes[place]
    return moved


def _inverse_chi(lanes):
    changed = []
    for row in range(0, 25, 5):
        five = lanes[row:row + 5]
        for x in range(5):
            b, c, d, e = [five[(x + ahead) % 5] for ahead in (1, 2, 3, 4)]
            changed.append(five[x] ^ (~b & (c ^ (~d & e))))
    return changed


def _undo(lanes, index):
    return _inverse_theta(_inverse_rho(_inverse_pi(_inverse_chi(_iota(lanes, index)))))
