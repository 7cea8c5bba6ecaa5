"""Blockmoves: code that moves blocks of memory, decided for all sizes."""
