"""Busyweb: flows in which no tie is idle."""
