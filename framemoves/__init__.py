"""Framemoves: running frames moved from one version of code to another."""
