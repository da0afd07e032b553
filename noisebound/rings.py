"""Rings: a degree, an odd prime and a root that belong together."""

from noisebound.checks import check_between, is_between
from noisebound.errors import BadRing
from noisebound.modular import check_degree, is_degree, is_odd_prime, is_root, primes_for, roots_of


def ring_fault(n, q, root):
    """Return the first broken demand, or None."""
    fault = size_fault(n, q)
    if fault is not None:
        return fault
    if not is_between(root, 1, q - 1) or not is_root(n, q, root):
        return "root"
    return None


def size_fault(n, q):
    """Return the first broken demand of n and q, or None."""
    if not is_degree(n):
        return "n"
    if not is_odd_prime(q):
        return "q"
    return None


class Ring:
    """The three numbers of a ring and what follows from them."""

    def __init__(self, n, q, root):
        fault = ring_fault(n, q, root)
        if fault is not None:
            raise BadRing(fault)
        self.n = n
        self.q = q
        self.root = root
        self.half = (q + 1) // 2
        self.quarter = (q - 1) // 4
        self.triple = (n, q, root)

    def __eq__(self, other):
        return isinstance(other, Ring) and self.triple == other.triple


def small_rings(n, below):
    """List the triples with the least root for each prime below a bound."""
    check_degree(n)
    check_between("below", below, 3, 1000)
    return [(n, q, roots_of(n, q)[0]) for q in primes_for(n) if q < below]


def least_ring(n, q):
    """Return the ring with the least root."""
    fault = size_fault(n, q)
    if fault is not None:
        raise BadRing(fault)
    roots = roots_of(n, q)
    if roots == []:
        raise BadRing("root")
    return Ring(n, q, roots[0])
