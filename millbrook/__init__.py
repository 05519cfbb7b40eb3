"""Millbrook: neighbours that change places only where a third stone helps."""
