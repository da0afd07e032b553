"""Noisebound: the published lattice key exchange and small siblings, with told noise."""
