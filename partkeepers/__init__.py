"""Partkeepers: which counts keep causal order when copies keep only some keys."""
