"""The exchange: key pairs, sent letters, and the keys that both ends get."""

from noisebound.checks import is_between
from noisebound.cipher import check_message, cipher_keys, decrypt, encrypt
from noisebound.errors import BadKey, BadLetter
from noisebound.hashes import hash_32, hash_64, stretch_256
from noisebound.octets import differing_places, split_at
from noisebound.packing import GREATEST_WIDTH, first_not_below, unpack
from noisebound.sampling import SEED_BYTES, check_seed

KEY_BYTES = 32
HASH_BYTES = 32


def byte_fault(data, length):
    """Return the fault of what is not a byte list of this length, or None."""
    if len(data) != length:
        return ("length", len(data))
    for index, item in enumerate(data):
        if not is_between(item, 0, 255):
            return ("byte", index)
    return None


def public_fault(params, public_key):
    """Return the fault of a public key, or None."""
    fault = byte_fault(public_key, params.public_bytes)
    if fault is not None:
        return fault
    numbers = unpack(GREATEST_WIDTH, public_key[:params.cipher_secret_bytes])
    index = first_not_below(numbers, params.q)
    if index is not None:
        return ("number", index)
    return None


def secret_fault(params, secret_key):
    """Return the fault of a secret key, or None."""
    fault = byte_fault(secret_key, params.secret_bytes)
    if fault is not None:
        return fault
    secret, public, found, _ = cut_secret_key(params, secret_key)
    places = differing_places(found, hash_32(public))
    if places != []:
        return ("hash", len(secret) + len(public) + places[0])
    return None


def letter_fault(params, letter):
    """Return the fault of a letter, or None."""
    return byte_fault(letter, params.letter_bytes)


def check_public(params, public_key):
    """Refuse a public key that has a fault."""
    fault = public_fault(params, public_key)
    if fault is not None:
        raise BadKey(fault[0], fault[1])


def check_secret(params, secret_key):
    """Refuse a secret key that has a fault."""
    fault = secret_fault(params, secret_key)
    if fault is not None:
        raise BadKey(fault[0], fault[1])


def check_sent(params, letter):
    """Refuse a letter that has a fault."""
    fault = letter_fault(params, letter)
    if fault is not None:
        raise BadLetter(fault[0], fault[1])


def cut_secret_key(params, secret_key):
    """Return the four parts of a secret key whose length is right."""
    sizes = [params.cipher_secret_bytes, params.public_bytes, HASH_BYTES, SEED_BYTES]
    return tuple(split_at(secret_key, sizes=sizes))


def make_keys(params, key_seed, fallback_seed):
    """Return the public key and the secret key of two seeds."""
    check_seed(key_seed)
    check_seed(fallback_seed)
    public_key, cipher_secret = cipher_keys(params, key_seed)
    return (public_key, cipher_secret + public_key + hash_32(public_key) + fallback_seed)


def secret_parts(params, secret_key):
    """Return the secret, public, hash and fallback parts of a secret key."""
    check_secret(params, secret_key)
    return cut_secret_key(params, secret_key)


def key_and_randomness(params, public_key, message):
    """Return the key and the randomness of a message under a public key."""
    check_public(params, public_key)
    check_message(params, message)
    return key_for(message, hash_32(public_key))


def key_for(message, public_hash):
    """Return the key and the randomness of a message and the hash of a public key."""
    both = hash_64(message + public_hash)
    return (both[:KEY_BYTES], both[KEY_BYTES:])


def send(params, public_key, message):
    """Return the key and the letter of a message."""
    key, randomness = key_and_randomness(params, public_key, message)
    return (key, encrypt(params, public_key, message, randomness))


def receive(params, secret_key, letter):
    """Return the key that a letter gives."""
    return receive_report(params, secret_key, letter)[2]


def other_key(params, secret_key, letter):
    """Return the key that a letter gives if it is not the remade letter."""
    check_secret(params, secret_key)
    check_sent(params, letter)
    return fallback_key(cut_secret_key(params, secret_key)[3], letter)


def fallback_key(fallback_seed, letter):
    """Return the other key of a fallback part and a letter."""
    return stretch_256(fallback_seed + letter, KEY_BYTES)


def receive_report(params, secret_key, letter):
    """Return the found message, the remade letter, the received key and a word."""
    check_secret(params, secret_key)
    check_sent(params, letter)
    cipher_secret, public, public_hash, fallback_seed = cut_secret_key(params, secret_key)
    message = decrypt(params, cipher_secret, letter)
    key, randomness = key_for(message, public_hash)
    remade = encrypt(params, public, message, randomness)
    if remade == letter:
        return (message, remade, key, "found")
    return (message, remade, fallback_key(fallback_seed, letter), "other")
