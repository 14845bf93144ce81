"""Fastestalong: a controller of machine tools, exact in all it tells."""
