"""Coverroll: who pays which cent of a loss."""
