"""Onefriend: nets by the numbers of common friends."""
