"""Ordersbehind: the orders that stand behind a web."""
