"""Slopewords: functions of x modulo a small prime, and linear slope equations over them."""
