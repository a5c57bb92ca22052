"""Bykindalone: programs for things of any kind, and what their kinds tell of them."""
