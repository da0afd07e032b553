"""The transform: polynomials as remainders modulo the factors X^2 - g of X^n + 1."""

from noisebound.checks import check_between, check_choice, check_length, check_polynomial, check_row
from noisebound.modular import inverse, power, reverse_bits
from noisebound.polynomials import value_at


def check_factor(ring, index):
    """Refuse what is not the index of a factor."""
    check_between("index", index, 0, ring.n // 2 - 1)


def check_pair(ring, pair):
    """Refuse what is not two residues."""
    check_row(pair, 2, 0, ring.q - 1)


def layer_lengths(ring):
    """List the lengths of the layers, from the longest to the shortest."""
    lengths = [ring.n // 2]
    while lengths[-1] > 2:
        lengths.append(lengths[-1] // 2)
    return lengths


def factor_exponent(ring, index):
    """Return the exponent of the root that a factor has."""
    check_factor(ring, index)
    count = (ring.n // 2).bit_length() - 1
    return 2 * reverse_bits(count, index) + 1


def factor_root(ring, index):
    """Return the residue g for which the factor is X^2 - g."""
    return power(ring.root, factor_exponent(ring, index), ring.q)


def factor_roots(ring):
    """List the residues of all factors."""
    return [number * number * ring.root % ring.q for number in block_numbers(ring, ring.root)]


def block_numbers(ring, base):
    """List the powers of base whose exponents are 0 to n // 2 - 1 with reversed bits."""
    count = ring.n // 2
    powers = [1]
    order = [0]
    for _ in range(count - 1):
        powers.append(powers[-1] * base % ring.q)
    while len(order) < count:
        order = [2 * place for place in order] + [2 * place + 1 for place in order]
    return [powers[place] for place in order]


def remainder_pair(ring, poly, index):
    """Return the two numbers of the remainder modulo a factor."""
    check_polynomial(ring, poly)
    at = factor_root(ring, index)
    return (value_at(poly[0::2], at, ring.q), value_at(poly[1::2], at, ring.q))


def split_layer(ring, values, length):
    """Split the blocks of one layer."""
    check_polynomial(ring, values)
    check_choice("length", length, layer_lengths(ring))
    return split_blocks(ring.q, values, length, block_numbers(ring, ring.root))


def split_blocks(q, values, length, numbers):
    """Split all blocks by the numbers that belong to them."""
    count = len(values) // (2 * length)
    parts = []
    for block in range(count):
        start = 2 * length * block
        number = numbers[count + block]
        front = values[start:start + length]
        back = [item * number for item in values[start + length:start + 2 * length]]
        parts.extend([(one + other) % q for one, other in zip(front, back)])
        parts.extend([(one - other) % q for one, other in zip(front, back)])
    return parts


def join_layer(ring, values, length):
    """Undo the splitting of one layer."""
    check_polynomial(ring, values)
    check_choice("length", length, layer_lengths(ring))
    return join_blocks(ring, values, length, block_numbers(ring, inverse(ring.root, ring.q)))


def join_blocks(ring, values, length, numbers):
    """Join all blocks by the inverses of the numbers that split them."""
    count = ring.n // (2 * length)
    parts = []
    for block in range(count):
        start = 2 * length * block
        # The half of a ring is the inverse of 2, by which a sum and a difference are too great.
        number = numbers[count + block] * ring.half % ring.q
        front = values[start:start + length]
        back = values[start + length:start + 2 * length]
        parts.extend([(one + other) * ring.half % ring.q for one, other in zip(front, back)])
        parts.extend([(one - other) * number % ring.q for one, other in zip(front, back)])
    return parts


def to_spectrum(ring, poly):
    """Return the spectrum of a polynomial."""
    check_polynomial(ring, poly)
    numbers = block_numbers(ring, ring.root)
    values = poly
    for length in layer_lengths(ring):
        values = split_blocks(ring.q, values, length, numbers)
    return values


def from_spectrum(ring, spectrum):
    """Return the polynomial that has this spectrum."""
    check_polynomial(ring, spectrum)
    numbers = block_numbers(ring, inverse(ring.root, ring.q))
    values = spectrum
    for length in layer_lengths(ring)[::-1]:
        values = join_blocks(ring, values, length, numbers)
    return values


def rebuild_plain(ring, spectrum):
    """Return the polynomial that has this spectrum, by a sum for each item."""
    check_polynomial(ring, spectrum)
    backward = [inverse(number, ring.q) for number in factor_roots(ring)]
    shares = [inverse(ring.n // 2, ring.q)] * (ring.n // 2)
    poly = []
    for _ in range(ring.n // 2):
        poly.append(sum([one * share for one, share in zip(spectrum[0::2], shares)]) % ring.q)
        poly.append(sum([one * share for one, share in zip(spectrum[1::2], shares)]) % ring.q)
        shares = [share * back % ring.q for share, back in zip(shares, backward)]
    return poly


def pairs_of(ring, spectrum):
    """List the remainder pairs of a spectrum."""
    check_polynomial(ring, spectrum)
    return list(zip(spectrum[0::2], spectrum[1::2]))


def spectrum_of_pairs(ring, pairs):
    """Return the spectrum that has these remainder pairs."""
    check_length(pairs, ring.n // 2)
    for pair in pairs:
        check_pair(ring, pair)
    return [item for pair in pairs for item in pair]


def pair_product(ring, index, first, second):
    """Return the product of two pairs for a factor."""
    check_factor(ring, index)
    check_pair(ring, first)
    check_pair(ring, second)
    return product_for(ring.q, factor_root(ring, index), first, second)


def product_for(q, number, first, second):
    """Return the product of two pairs modulo X^2 - number."""
    a, b = first
    c, d = second
    return ((a * c + b * d * number) % q, (a * d + b * c) % q)


def multiply_spectra(ring, first, second):
    """Return the product of two spectra, pair by pair."""
    check_polynomial(ring, first)
    check_polynomial(ring, second)
    product = []
    for number, one, other in zip(factor_roots(ring), pairs_of(ring, first), pairs_of(ring, second)):
        product.extend(product_for(ring.q, number, one, other))
    return product


def multiply_fast(ring, first, second):
    """Return the product of two polynomials by their spectra."""
    check_polynomial(ring, first)
    check_polynomial(ring, second)
    product = multiply_spectra(ring, to_spectrum(ring, first), to_spectrum(ring, second))
    return from_spectrum(ring, product)
