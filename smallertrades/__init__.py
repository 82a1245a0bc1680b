"""Trades made smaller by as much as can be, with nobody's net changed."""
