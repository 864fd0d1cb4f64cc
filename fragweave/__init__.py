"""Fragweave: packets in pieces, put together by tables."""
