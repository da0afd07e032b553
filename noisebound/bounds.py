"""Bounds: how far the noise of a set or of a key can go, and how far it may go."""

from noisebound.checks import check_between, check_centred_vector, is_number
from noisebound.polynomials import row_weight
from noisebound.pressing import press_bound


def terms_of(ring, k, widths):
    """Return the five terms for a ring, a number of rows and the four widths."""
    secret, noise, u_width, v_width = widths
    share = k * ring.n * secret
    u_bound = press_bound(ring.q, u_width)
    return (share * secret, share * noise, share * u_bound, noise, press_bound(ring.q, v_width))


def room_of(ring):
    """Return the greatest absolute value that noise may have for any bit."""
    return ring.quarter - 1


def noise_terms(params):
    """Return the five terms whose sum is the noise bound."""
    return terms_of(params.ring, params.k, params.numbers[4:])


def noise_bound(params):
    """Return what no noise number of the set exceeds."""
    return sum(noise_terms(params))


def room(params):
    """Return what no noise number may exceed, so that every bit comes back."""
    return room_of(params.ring)


def always_comes_back(params):
    """Tell if the noise bound is at most the room."""
    return noise_bound(params) <= room(params)


def always_paper(params):
    """Return the five terms if their sum is at most the room, otherwise None."""
    if always_comes_back(params):
        return noise_terms(params)
    return None


def is_always_paper(params, paper):
    """Tell if a paper has five integers that are not below the terms and together at most the room."""
    terms = noise_terms(params)
    if not isinstance(paper, tuple) or len(paper) != len(terms):
        return False
    if not all([is_number(number) for number in paper]):
        return False
    return all([number >= term for number, term in zip(paper, terms)]) and sum(paper) <= room(params)


def always_widths(ring, k):
    """List the four widths of all sets whose noise bound is at most the room."""
    check_between("k", k, 1, 4)
    tried = [
        (secret, noise, u_width, v_width)
        for secret in range(1, 4) for noise in range(1, 4)
        for u_width in range(1, 12) for v_width in range(1, 12)
    ]
    return [widths for widths in tried if sum(terms_of(ring, k, widths)) <= room_of(ring)]


def key_bound(params, secret, error):
    """Return what no noise number of this key exceeds."""
    check_centred_vector(secret, params.k, params.n, params.secret_width)
    check_centred_vector(error, params.k, params.n, params.secret_width)
    by_error = params.secret_width * vector_weight(error)
    by_secret = (params.noise_width + press_bound(params.q, params.u_width)) * vector_weight(secret)
    return by_error + by_secret + params.noise_width + press_bound(params.q, params.v_width)


def key_always(params, secret, error):
    """Tell if the key bound is at most the room."""
    return key_bound(params, secret, error) <= room(params)


def vector_weight(rows):
    """Return the sum of the absolute values in all rows."""
    return sum([row_weight(row) for row in rows])
