"""The names, parameters and places of the interface, as the document writes them."""

import importlib
import inspect
import unittest

FUNCTIONS = {
    "octets": {
        "check_bytes": "(data, *, length=None)",
        "concatenate": "(*pieces)",
        "split_at": "(data, *, sizes)",
        "xor_bytes": "(first, second)",
        "differing_places": "(first, second)",
        "change_byte": "(data, index, value)",
        "little_bytes": "(count, value)",
        "little_integer": "(data)",
        "bits_of": "(data)",
        "bytes_of": "(bits)",
    },
    "hexadecimal": {
        "to_hex": "(data, *, group=0)",
        "hex_fault": "(text, *, group=0)",
        "is_hex": "(text, *, group=0)",
        "from_hex": "(text, *, group=0)",
    },
    "permutation": {
        "rotate": "(lane, count)",
        "state_from_bytes": "(data)",
        "bytes_from_state": "(state)",
        "rotation_offset": "(x, y)",
        "constant_bit": "(step)",
        "round_constant": "(index)",
        "column_parities": "(state)",
        "theta": "(state)",
        "rho": "(state)",
        "pi": "(state)",
        "chi": "(state)",
        "inverse_theta": "(state)",
        "inverse_rho": "(state)",
        "inverse_pi": "(state)",
        "inverse_chi": "(state)",
        "iota": "(state, index)",
        "do_round": "(state, index)",
        "undo_round": "(state, index)",
        "permute": "(state, *, first=0, last=24)",
        "permute_back": "(state, *, first=0, last=24)",
    },
    "sponge": {
        "pad": "(data, *, rate, suffix)",
        "unpad": "(padded, *, rate, suffix)",
        "sponge_bytes": "(data, count, *, rate, suffix)",
    },
    "hashes": {
        "hash_32": "(data)",
        "hash_64": "(data)",
        "stretch_128": "(data, count)",
        "stretch_256": "(data, count)",
    },
    "modular": {
        "residue": "(value, q)",
        "centred": "(value, q)",
        "distance": "(first, second, q)",
        "power": "(base, exponent, q)",
        "inverse": "(value, q)",
        "order_of": "(value, q)",
        "least_divisor": "(value)",
        "is_prime": "(value)",
        "primes_for": "(n)",
        "roots_of": "(n, q)",
        "reverse_bits": "(count, value)",
    },
    "rings": {
        "ring_fault": "(n, q, root)",
        "small_rings": "(n, below)",
        "least_ring": "(n, q)",
    },
    "polynomials": {
        "constant": "(ring, value)",
        "monomial": "(ring, exponent, *, value=1)",
        "add": "(ring, first, second)",
        "subtract": "(ring, first, second)",
        "negate": "(ring, poly)",
        "scale": "(ring, poly, factor)",
        "shift": "(ring, poly, exponent)",
        "multiply_plain": "(ring, first, second)",
        "centre": "(ring, poly)",
        "from_centred": "(ring, numbers)",
        "size": "(ring, poly)",
        "weight": "(ring, poly)",
        "evaluate": "(ring, poly, at)",
    },
    "transform": {
        "factor_exponent": "(ring, index)",
        "factor_root": "(ring, index)",
        "remainder_pair": "(ring, poly, index)",
        "split_layer": "(ring, values, length)",
        "join_layer": "(ring, values, length)",
        "to_spectrum": "(ring, poly)",
        "from_spectrum": "(ring, spectrum)",
        "rebuild_plain": "(ring, spectrum)",
        "pairs_of": "(ring, spectrum)",
        "spectrum_of_pairs": "(ring, pairs)",
        "pair_product": "(ring, index, first, second)",
        "multiply_spectra": "(ring, first, second)",
        "multiply_fast": "(ring, first, second)",
    },
    "vectors": {
        "add_vectors": "(ring, first, second)",
        "vector_to_spectra": "(ring, vector)",
        "vector_from_spectra": "(ring, vector)",
        "dot_plain": "(ring, first, second)",
        "dot_spectra": "(ring, first, second)",
        "transpose": "(ring, matrix)",
        "apply_plain": "(ring, matrix, vector)",
        "apply_spectra": "(ring, matrix, vector)",
    },
    "pressing": {
        "press": "(q, width, value)",
        "unpress": "(q, width, code)",
        "press_error": "(q, width, value)",
        "press_bound": "(q, width)",
        "presses_exactly": "(q, width)",
        "residues_of_code": "(q, width, code)",
        "press_polynomial": "(ring, width, poly)",
        "unpress_polynomial": "(ring, width, codes)",
        "press_errors": "(ring, width, poly)",
        "read_bit": "(ring, value)",
        "noise_range": "(ring, bit)",
    },
    "packing": {
        "pack": "(width, numbers)",
        "unpack": "(width, data)",
        "first_not_below": "(numbers, limit)",
        "pack_vector": "(ring, vector)",
        "unpack_vector": "(ring, count, data)",
    },
    "sampling": {
        "pieces": "(data)",
        "piece_limit": "(q)",
        "uniform_from_bytes": "(ring, data)",
        "filled_report": "(ring, data)",
        "is_uniform_report": "(ring, data, paper)",
        "uniform_report": "(ring, seed, column, row)",
        "uniform_polynomial": "(ring, seed, column, row)",
        "matrix_of": "(ring, k, seed)",
        "binomial_from_bytes": "(n, width, data)",
        "error_row": "(n, width, seed, counter)",
        "error_vector": "(n, width, seed, counter, count)",
    },
    "parameters": {
        "parameter_fault": "(*, n, q, root, k, secret_width, noise_width, u_width, v_width)",
        "set_of": "(numbers)",
        "published_names": "()",
        "published": "(name)",
        "name_of": "(params)",
        "set_line": "(params)",
        "read_set_line": "(text)",
    },
    "bounds": {
        "noise_terms": "(params)",
        "noise_bound": "(params)",
        "room": "(params)",
        "always_comes_back": "(params)",
        "always_paper": "(params)",
        "is_always_paper": "(params, paper)",
        "always_widths": "(ring, k)",
        "key_bound": "(params, secret, error)",
        "key_always": "(params, secret, error)",
    },
    "cipher": {
        "key_seeds": "(params, key_seed)",
        "key_errors": "(params, error_seed)",
        "pack_secret": "(params, secret)",
        "cipher_keys_of": "(params, matrix_seed, error_seed)",
        "cipher_keys": "(params, key_seed)",
        "letter_errors": "(params, randomness)",
        "letter_parts": "(params, public_key, message, randomness)",
        "write_letter": "(params, u, v)",
        "read_letter": "(params, letter)",
        "encrypt": "(params, public_key, message, randomness)",
        "masked": "(params, cipher_secret, letter)",
        "decrypt": "(params, cipher_secret, letter)",
    },
    "noise": {
        "noise_row": "(params, key_seed, message, randomness)",
        "noise_of_letter": "(params, cipher_secret, letter, message)",
        "lost_places": "(params, message, noise)",
        "comes_back": "(params, message, noise)",
        "margins": "(params, message, noise)",
        "read_back": "(params, message, noise)",
        "noise_paper": "(params, key_seed, message, randomness)",
        "is_noise_paper": "(params, public_key, letter, message, paper)",
        "key_paper": "(params, key_seed)",
        "is_key_paper": "(params, public_key, paper)",
    },
    "exchange": {
        "public_fault": "(params, public_key)",
        "secret_fault": "(params, secret_key)",
        "letter_fault": "(params, letter)",
        "make_keys": "(params, key_seed, fallback_seed)",
        "secret_parts": "(params, secret_key)",
        "key_and_randomness": "(params, public_key, message)",
        "send": "(params, public_key, message)",
        "receive": "(params, secret_key, letter)",
        "other_key": "(params, secret_key, letter)",
        "receive_report": "(params, secret_key, letter)",
    },
    "keytext": {
        "key_to_text": "(params, kind, data)",
        "text_fault": "(text)",
        "text_to_key": "(text)",
    },
    "ends": {
        "hello_bytes": "(params)",
        "reply_bytes": "(params)",
        "finish_bytes": "(params)",
        "tag_of": "(key, number, public_key, letter)",
    },
    "talks": {
        "run_talk": "(params, key_seed, fallback_seed, message, deeds)",
        "is_talk_journal": "(params, key_seed, fallback_seed, message, deeds, paper)",
        "first_wrong_row": "(params, key_seed, fallback_seed, message, deeds, rows)",
    },
    "records": {
        "record_key": "(session_key, side, number)",
        "seal": "(session_key, side, number, body)",
        "unseal": "(session_key, side, record)",
        "chain_key": "(key, steps)",
    },
    "script": {
        "parse_line": "(text)",
        "line_of": "(command)",
        "is_name": "(word)",
    },
    "book": {
        "replay": "(lines)",
        "audit": "(rows)",
        "first_difference": "(first, second)",
    },
}

CLASSES = {
    "sponge": {
        "Sponge": {
            "__init__": "(self, *, rate, suffix)",
            "absorb": "(self, data)",
            "squeeze": "(self, count)",
            "fork": "(self)",
        },
    },
    "hashes": {
        "Stretcher": {
            "__init__": "(self, seed, *, strength=128)",
            "read": "(self, count)",
        },
    },
    "rings": {
        "Ring": {
            "__init__": "(self, n, q, root)",
            "__eq__": "(self, other)",
        },
    },
    "algebra": {
        "Element": {
            "__init__": "(self, ring, poly)",
            "coefficients": "(self)",
        },
    },
    "parameters": {
        "ParameterSet": {
            "__init__": "(self, *, n, q, root, k, secret_width, noise_width, u_width, v_width)",
            "__eq__": "(self, other)",
        },
    },
    "ends": {
        "Starter": {
            "__init__": "(self, params, key_seed, fallback_seed)",
            "start": "(self)",
            "take": "(self, data)",
        },
        "Answerer": {
            "__init__": "(self, params, message)",
            "take": "(self, data)",
        },
    },
    "talks": {
        "Talk": {
            "__init__": "(self, params, key_seed, fallback_seed, message)",
            "do": "(self, deed)",
        },
    },
    "records": {
        "Channel": {
            "__init__": "(self, session_key, side)",
            "seal_next": "(self, body)",
            "take": "(self, record)",
        },
        "Mailbox": {
            "__init__": "(self, params, key_seed, fallback_seed)",
            "__len__": "(self)",
            "__contains__": "(self, x)",
            "__iter__": "(self)",
            "take": "(self, letter)",
            "key_of": "(self, number)",
        },
    },
    "book": {
        "Book": {
            "__init__": "(self)",
            "__len__": "(self)",
            "__contains__": "(self, x)",
            "__getitem__": "(self, at)",
            "__iter__": "(self)",
            "run": "(self, line)",
            "run_all": "(self, *lines)",
            "undo": "(self)",
            "redo": "(self)",
            "all_lines": "(self)",
            "all_rows": "(self)",
            "twin": "(self)",
        },
    },
}


class InterfaceTest(unittest.TestCase):

    def test_functions(self):
        for file, functions in FUNCTIONS.items():
            module = importlib.import_module("noisebound." + file)
            for name, signature in functions.items():
                function = getattr(module, name)
                self.assertTrue(inspect.isfunction(function), name)
                self.assertEqual(function.__module__, module.__name__)
                self.assertEqual(str(inspect.signature(function)), signature, name)

    def test_classes(self):
        for file, classes in CLASSES.items():
            module = importlib.import_module("noisebound." + file)
            for name, methods in classes.items():
                self.check_class(module, getattr(module, name), methods)

    def check_class(self, module, defined, methods):
        self.assertEqual(defined.__module__, module.__name__)
        for name, signature in methods.items():
            self.assertEqual(str(inspect.signature(vars(defined)[name])), signature, name)


if __name__ == "__main__":
    unittest.main()
