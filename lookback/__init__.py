"""Lookback: looks at tables, and their changes led back."""
