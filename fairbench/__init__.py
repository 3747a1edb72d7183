"""Benches filled by ballots, and heaps of ballots that are left out."""
