"""Heavycut: heaviest cuts, with papers that none is heavier."""
