"""Endchecks: rules that are checked within statements, behind them or at the end."""
