"""Midswitch: requests that read settings while these are switched."""
