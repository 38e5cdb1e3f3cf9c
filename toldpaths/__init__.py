"""Toldpaths: what kept path answers tell."""
