"""Ringvotes: flows that meters outvote."""
