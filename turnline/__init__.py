"""Turnline: trains that are to be turned round."""
